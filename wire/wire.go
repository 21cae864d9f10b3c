// Package wire is layer 1: numbers, strings and rows as bytes, each in one way alone.
package wire

import (
	"carpetbag/api"
)

// numberSize is how many bytes a number has.
const numberSize = 4

// Number is b, and the bytes of n behind.
func Number(b []byte, n int) []byte {
	return putNumber(copied(b, numberSize), n)
}

// String is b, and the bytes of s behind.
func String(b []byte, s string) []byte {
	return putString(copied(b, stringSize(s)), s)
}

// Row is b, and the bytes of l behind.
func Row(b []byte, l []string) []byte {
	l = l[:min(len(l), api.MaxRow)]
	size := numberSize
	for _, s := range l {
		size += stringSize(s)
	}
	b = putNumber(copied(b, size), len(l))
	for _, s := range l {
		b = putString(b, s)
	}
	return b
}

// Fits tells whether s has most bytes at most, and no more than a string on the wire may have.
func Fits(s string, most int) bool {
	return len(s) <= min(most, api.MaxBytes)
}

// copied is b in memory of its own: appending to b itself would write into the spare room of whoever handed it in.
func copied(b []byte, room int) []byte {
	return append(make([]byte, 0, len(b)+room), b...)
}

// stringSize is how many bytes s has on the wire.
func stringSize(s string) int {
	return numberSize + min(len(s), api.MaxBytes)
}

func putNumber(b []byte, n int) []byte {
	u := uint32(min(max(n, 0), api.MaxNumber))
	return append(b, byte(u>>24), byte(u>>16), byte(u>>8), byte(u))
}

func putString(b []byte, s string) []byte {
	s = s[:min(len(s), api.MaxBytes)]
	return append(putNumber(b, len(s)), s...)
}
