package table

import "oxbow/api"

// fault is an error on its way out of what was done. It is a type of its own, so that nothing else that panics is taken for one.
type fault api.Errno

// caught: the fault by which what is done was left, if it was.
func caught(do func()) (e api.Errno) {
	defer func() {
		why := recover()
		if why == nil {
			return
		}
		f, ok := why.(fault)
		if !ok {
			panic(why)
		}
		e = api.Errno(f)
	}()
	do()
	return api.OK
}

// leave: with an error what is done ends here.
func leave(e api.Errno) {
	if e != api.OK {
		panic(fault(e))
	}
}

// must: bytes of which this doesn't hold aren't those of a table.
func must(holds bool) {
	if !holds {
		leave(api.ErrForm)
	}
}
