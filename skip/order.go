package skip

import (
	"math"

	"oxbow/api"
)

// Good: may the entry be put?
func Good(e api.Entry) api.Errno {
	switch {
	case len(e.Key) > api.MaxKey || len(e.Value) > api.MaxValue:
		return api.ErrLong
	case e.Key == "" || e.Seq < 1 || e.Until < 0:
		return api.ErrArg
	case e.Gone && (e.Value != "" || e.Until != 0):
		return api.ErrArg
	}
	return api.OK
}

// Less: does one entry stand ahead of another?
func Less(a, b api.Entry) bool {
	if a.Key != b.Key {
		return a.Key < b.Key
	}
	return a.Seq > b.Seq
}

// newest: none of a key's entries stands ahead of this one.
func newest(key string) api.Entry { return api.Entry{Key: key, Seq: math.MaxInt64} }
