package wire_test

import (
	"bytes"
	"slices"
	"strings"
	"testing"

	"carpetbag/api"
	"carpetbag/wire"
)

// cut is what is written of a string.
func cut(s string) string { return s[:min(len(s), api.MaxBytes)] }

// P1.5: what was written is read as it was, one behind the other, and the end is there then.
func TestWrittenIsRead(t *testing.T) {
	numbers := []int{0, 1, 255, 256, 65535, 65536, 1<<31 - 1, 1 << 31, api.MaxNumber}
	texts := []string{"", "a", "ab", "\x00", "\xff\xff\xff\xff", number(1), strings.Repeat("t", 300), strings.Repeat("t", api.MaxBytes)}
	rows := [][]string{nil, {}, {""}, {"", ""}, texts, slices.Repeat([]string{"r"}, api.MaxRow)}
	var b []byte
	for _, n := range numbers {
		for _, s := range texts {
			b = wire.String(wire.Number(b, n), s)
		}
	}
	for _, l := range rows {
		b = wire.Number(wire.Row(b, l), 5)
	}
	r := wire.Read(b)
	for _, n := range numbers {
		for _, s := range texts {
			if m := r.Number(n); m != n {
				t.Fatalf("the number %d is read as %d", n, m)
			}
			if u := r.String(len(s)); u != s {
				t.Fatalf("a string of %d bytes is read as one of %d", len(s), len(u))
			}
		}
	}
	for _, l := range rows {
		if m := r.Row(len(l), api.MaxBytes); !slices.Equal(m, l) {
			t.Fatalf("a row of %d is read as one of %d", len(l), len(m))
		}
		if n := r.Number(5); n != 5 {
			t.Fatalf("the number behind a row is read as %d", n)
		}
	}
	if r.At() != len(b) || r.End() != api.OK {
		t.Errorf("at %d of %d, End %d", r.At(), len(b), r.End())
	}
}

// P1.5: what is cut, or clamped, as it is written is read as it was written.
func TestCutIsRead(t *testing.T) {
	long := strings.Repeat("u", api.MaxBytes+5)
	l := slices.Repeat([]string{"q"}, api.MaxRow+5)
	b := wire.Row(wire.String(wire.Number(wire.Number(nil, api.MaxInt), -7), long), l)
	r := wire.Read(b)
	n, m, s, q := r.Number(api.MaxInt), r.Number(0), r.String(api.MaxInt), r.Row(api.MaxInt, api.MaxInt)
	if n != api.MaxNumber || m != 0 || s != cut(long) || !slices.Equal(q, l[:api.MaxRow]) || r.End() != api.OK {
		t.Error(n, m, len(s), len(q), r.Err())
	}
}

// rewritten reads b by the calls that shape names, and writes what it read anew; the second answer tells whether b was read to its end.
func rewritten(b []byte, shape string) ([]byte, bool) {
	r := wire.Read(b)
	var again []byte
	for _, c := range shape {
		switch c {
		case 'n':
			again = wire.Number(again, r.Number(api.MaxNumber))
		case 's':
			again = wire.String(again, r.String(api.MaxBytes))
		case 'r':
			again = wire.Row(again, r.Row(api.MaxRow, api.MaxBytes))
		}
	}
	return again, r.End() == api.OK
}

// shapes are the words of one to three calls.
func shapes() []string {
	var out []string
	for _, a := range []string{"n", "s", "r"} {
		out = append(out, a)
		for _, b := range []string{"n", "s", "r"} {
			out = append(out, a+b, a+b+"n", a+b+"s", a+b+"r")
		}
	}
	return out
}

// P1.5: bytes that are read to their end are those that are written: every string of up to four small numbers, whole or with a byte too few or too many.
func TestReadIsWritten(t *testing.T) {
	read := 0
	var try func(b []byte, left int)
	try = func(b []byte, left int) {
		for _, shape := range shapes() {
			for _, c := range [][]byte{b, append(bytes.Clone(b), 0), b[:max(0, len(b)-1)]} {
				again, whole := rewritten(c, shape)
				if !whole {
					continue
				}
				read++
				if !bytes.Equal(again, c) {
					t.Fatalf("%q, read as %s, is written as %q", c, shape, again)
				}
			}
		}
		if left == 0 {
			return
		}
		for _, n := range []string{number(0), number(1), number(2), number(4), number(5), number(8), number(1 << 24), "\x00"} {
			try(append(bytes.Clone(b), n...), left-1)
		}
	}
	try(nil, 4)
	if read < 1000 {
		t.Errorf("only %d were read to their end", read)
	}
}

// P1.5, P1.2: whatever the bytes, nothing panics, and what is read to its end is what is written.
func FuzzRead(f *testing.F) {
	f.Add([]byte(""), uint8(0))
	f.Add([]byte(rowBytes("a", "")), uint8(2))
	f.Add([]byte(number(9)+number(2)+"ab"), uint8(7))
	f.Fuzz(func(t *testing.T, b []byte, at uint8) {
		all := shapes()
		shape := all[int(at)%len(all)]
		again, whole := rewritten(b, shape)
		if whole && !bytes.Equal(again, b) {
			t.Errorf("%q, read as %s, is written as %q", b, shape, again)
		}
	})
}
