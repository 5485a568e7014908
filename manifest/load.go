package manifest

import (
	"oxbow/api"
	"oxbow/disk"
	"oxbow/frame"
	"oxbow/version"
	"oxbow/wal"
)

// Load: the version that is told, and the number of the manifest that counts.
func Load(d *disk.Disk) (version.Version, int64, api.Errno) {
	n, e := current(d)
	if e != api.OK {
		return version.Version{}, 0, e
	}
	bodies, e := read(d, n)
	if e != api.OK {
		return version.Version{}, 0, e
	}
	v, e := apply(bodies)
	if e != api.OK {
		return version.Version{}, 0, e
	}
	return v, n, api.OK
}

// current: the number of the manifest that counts.
func current(d *disk.Disk) (int64, api.Errno) {
	s, e := d.Read(Current)
	if e != api.OK {
		return 0, e
	}
	name, end, e := frame.Get(s, 0)
	// All its bytes lasted before it was called so: what is cut off here is damage too.
	if e != api.OK || end != len(s) {
		return 0, api.ErrSum
	}
	n, is := wal.Number(manifestKind, name)
	if !is {
		return 0, api.ErrForm
	}
	return n, api.OK
}

// read: the bodies of a manifest.
func read(d *disk.Disk, n int64) ([]string, api.Errno) {
	s, e := d.Read(wal.File(manifestKind, n))
	if e != api.OK {
		return nil, e
	}
	bodies, _, why := frame.All(s)
	// A loss of power within an Add cuts its frame off, which wasn't told yet: any other end is damage.
	if why == api.ErrForm || why == api.ErrSum {
		return nil, api.ErrSum
	}
	return bodies, api.OK
}

// apply: the version that edits' bytes make out of none; of no edits there is none.
func apply(bodies []string) (version.Version, api.Errno) {
	if len(bodies) == 0 {
		return version.Version{}, api.ErrForm
	}
	var v version.Version
	for _, body := range bodies {
		edit, e := version.Get(body)
		if e != api.OK {
			return version.Version{}, api.ErrForm
		}
		v, e = v.Apply(edit)
		if e != api.OK {
			return version.Version{}, api.ErrForm
		}
	}
	return v, api.OK
}
