package wal

import (
	"strconv"
	"strings"
)

const logKind = "log"

// A name's number stands in so many digits, and so is at most the greatest that these can tell.
const (
	digits   = 8
	greatest = 99999999
)

// Name: that of the log of this number.
func Name(n int64) string { return File(logKind, n) }

// Number: the number of a name of this kind.
func Number(kind, name string) (int64, bool) {
	at := len(name) - digits
	if at < 0 {
		return 0, false
	}
	n, err := strconv.ParseInt(name[at:], 10, 64)
	// ParseInt takes signs too: only what File tells is a name.
	if err != nil || File(kind, n) != name {
		return 0, false
	}
	return n, true
}

// File: the name of a file of this kind and number.
func File(kind string, n int64) string {
	if !goodKind(kind) || n < 0 || n > greatest {
		return ""
	}
	number := strconv.FormatInt(n, 10)
	return kind + "-" + strings.Repeat("0", digits-len(number)) + number
}

func goodKind(kind string) bool {
	for i := range len(kind) {
		if kind[i] < 'a' || kind[i] > 'z' {
			return false
		}
	}
	return kind != ""
}
