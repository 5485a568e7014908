package manifest

import (
	"strings"

	"oxbow/api"
	"oxbow/frame"
	"oxbow/version"
)

// mostInPart: so many tables a part adds at most, as one frame doesn't hold those of any version.
const mostInPart = 256

// parts: the edits that make the version out of none, one behind the other: at least one, as a manifest without any tells nothing.
func parts(v version.Version) []version.Edit {
	var l []version.Edit
	left := v.Whole().Add
	for {
		n := min(len(left), mostInPart)
		l = append(l, version.Edit{Add: left[:n], Log: v.Log, Next: v.Next, Seq: v.Seq})
		left = left[n:]
		if len(left) == 0 {
			return l
		}
	}
}

// frames: those of edits' bytes, one behind the other.
func frames(edits ...version.Edit) (string, api.Errno) {
	var b strings.Builder
	for _, edit := range edits {
		s, e := frame.Put(version.Put(edit))
		if e != api.OK {
			return "", e
		}
		b.WriteString(s)
	}
	return b.String(), api.OK
}
