// Package varint is layer 1: see shared/doc/01-varint.md.
package varint

import (
	"strings"

	"oxbow/api"
)

const (
	more    = 0x80 // the bit of a byte behind which another one comes
	longest = 10   // 64 bits in pieces of seven
)

// Put: the bytes of a number.
func Put(n int64) string {
	b, count := pieces(n)
	return string(b[:count])
}

// Get: the number that stands at a place, and the place behind it.
func Get(s string, at int) (int64, int, api.Errno) {
	if at < 0 || at > len(s) {
		return 0, 0, api.ErrArg
	}
	count, e := measure(s[at:])
	if e != api.OK {
		return 0, 0, e
	}
	next := at + count
	return join(s[at:next]), next, api.OK
}

// PutText: the bytes of a text.
func PutText(s string) string {
	return Put(int64(len(s))) + s
}

// GetText: the text that stands at a place, and the place behind it.
func GetText(s string, at int) (string, int, api.Errno) {
	n, from, e := Get(s, at)
	switch {
	case e != api.OK:
		return "", 0, e
	case n < 0:
		return "", 0, api.ErrForm
	case n > api.MaxBody:
		return "", 0, api.ErrLong
	case n > int64(len(s)-from):
		return "", 0, api.ErrShort
	}
	next := from + int(n)
	// A piece of s would keep all of s in memory for as long as the text is.
	return strings.Clone(s[from:next]), next, api.OK
}

// PutAll: the bytes of numbers, one behind the other.
func PutAll(l ...int64) string {
	var all []byte
	for _, n := range l {
		b, count := pieces(n)
		all = append(all, b[:count]...)
	}
	return string(all)
}

// GetAll: the numbers that bytes are.
func GetAll(s string) ([]int64, api.Errno) {
	var l []int64
	for at := 0; at < len(s); {
		n, next, e := Get(s, at)
		if e != api.OK {
			return nil, e
		}
		l = append(l, n)
		at = next
	}
	return l, api.OK
}

// pieces: a number's bytes, and how many they are.
func pieces(n int64) ([longest]byte, int) {
	var b [longest]byte
	last := 0
	u := turn(n)
	for ; u >= more; u >>= 7 {
		b[last] = byte(u) | more
		last++
	}
	b[last] = byte(u)
	return b, last + 1
}

// measure: how many bytes the number has with which s begins.
func measure(s string) (int, api.Errno) {
	last := 0
	for last < len(s) && last < longest && s[last] >= more {
		last++
	}
	switch {
	case last == longest:
		return 0, api.ErrForm
	case last == len(s):
		return 0, api.ErrShort
	case last == longest-1 && s[last] > 1: // more than 64 bits
		return 0, api.ErrForm
	case last > 0 && s[last] == 0: // not the shortest form
		return 0, api.ErrForm
	}
	return last + 1, api.OK
}

// join: the number that whole bytes are.
func join(s string) int64 {
	var u uint64
	for i := range len(s) {
		u |= uint64(s[i]&^more) << (7 * i)
	}
	return turnBack(u)
}

// turn: the turned number; n>>63 is all bits where n is below 0, and none else.
func turn(n int64) uint64 {
	return uint64(n)<<1 ^ uint64(n>>63)
}

// turnBack: the number that was turned.
func turnBack(u uint64) int64 {
	return int64(u>>1) ^ -int64(u&1)
}
