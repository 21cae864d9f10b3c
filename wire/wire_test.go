package wire_test

import (
	"bytes"
	"slices"
	"strings"
	"testing"

	"carpetbag/api"
	"carpetbag/wire"
)

// number is a number's bytes, written out without the package under test.
func number(n int) string {
	return string([]byte{byte(n >> 24), byte(n >> 16), byte(n >> 8), byte(n)})
}

// P1.1: a number's bytes are four, the high ones first, of it clamped.
func TestNumberBytes(t *testing.T) {
	for _, c := range []struct {
		n    int
		want string
	}{
		{0, "\x00\x00\x00\x00"},
		{1, "\x00\x00\x00\x01"},
		{255, "\x00\x00\x00\xff"},
		{256, "\x00\x00\x01\x00"},
		{0x01020304, "\x01\x02\x03\x04"},
		{0xfedcba98, "\xfe\xdc\xba\x98"},
		{1 << 31, "\x80\x00\x00\x00"},
		{api.MaxNumber - 1, "\xff\xff\xff\xfe"},
		{api.MaxNumber, "\xff\xff\xff\xff"},
		{api.MaxNumber + 1, "\xff\xff\xff\xff"},
		{1<<40 + 7, "\xff\xff\xff\xff"},
		{api.MaxInt, "\xff\xff\xff\xff"},
		{-1, "\x00\x00\x00\x00"},
		{-1 << 32, "\x00\x00\x00\x00"},
		{api.MinInt, "\x00\x00\x00\x00"},
	} {
		if got := string(wire.Number(nil, c.n)); got != c.want {
			t.Errorf("Number(nil, %d) = %q, want %q", c.n, got, c.want)
		}
		if got := string(wire.Number([]byte("xy"), c.n)); got != "xy"+c.want {
			t.Errorf("Number(xy, %d) = %q, want %q", c.n, got, "xy"+c.want)
		}
	}
}

// P1.1: a string's bytes are the number of its bytes, and these, MaxBytes at most.
func TestStringBytes(t *testing.T) {
	full := strings.Repeat("abcdefgh", api.MaxBytes/8)
	for _, c := range []struct {
		name, s, want string
	}{
		{"none", "", "\x00\x00\x00\x00"},
		{"two", "ab", "\x00\x00\x00\x02ab"},
		{"bytes that are no text", "\x00\xff\xfe", "\x00\x00\x00\x03\x00\xff\xfe"},
		{"bytes, not runes", "é", "\x00\x00\x00\x02\xc3\xa9"},
		{"256", full[:256], "\x00\x00\x01\x00" + full[:256]},
		{"one below the limit", full[1:], "\x00\x00\x3f\xff" + full[1:]},
		{"at the limit", full, "\x00\x00\x40\x00" + full},
		{"one above it", full + "z", "\x00\x00\x40\x00" + full},
		{"twice as long", full + full, "\x00\x00\x40\x00" + full},
	} {
		if got := string(wire.String(nil, c.s)); got != c.want {
			t.Errorf("String of %s: %d bytes %.20q, want %d bytes %.20q", c.name, len(got), got, len(c.want), c.want)
		}
		if got := string(wire.String([]byte{9}, c.s)); got != "\x09"+c.want {
			t.Errorf("String of %s behind another byte: %.20q", c.name, got)
		}
	}
}

// P1.1: a row's bytes are the number of its strings, and each one's bytes, MaxRow strings at most.
func TestRowBytes(t *testing.T) {
	long := strings.Repeat("l", api.MaxBytes)
	full := make([]string, api.MaxRow)
	all := number(api.MaxRow)
	for i := range full {
		full[i] = strings.Repeat(string(rune('a'+i%26)), i%5)
		all += number(len(full[i])) + full[i]
	}
	last := strings.LastIndex(all, number(len(full[api.MaxRow-1])))
	for _, c := range []struct {
		name string
		l    []string
		want string
	}{
		{"nil", nil, "\x00\x00\x00\x00"},
		{"empty", []string{}, "\x00\x00\x00\x00"},
		{"of one that is empty", []string{""}, "\x00\x00\x00\x01\x00\x00\x00\x00"},
		{"of two", []string{"c", "ab"}, "\x00\x00\x00\x02\x00\x00\x00\x01c\x00\x00\x00\x02ab"},
		{"of two alike", []string{"c", "c"}, "\x00\x00\x00\x02\x00\x00\x00\x01c\x00\x00\x00\x01c"},
		{"with one that is cut", []string{"a", long + "x", "b"}, number(3) + number(1) + "a" + number(api.MaxBytes) + long + number(1) + "b"},
		{"one below the limit", full[:api.MaxRow-1], number(api.MaxRow-1) + all[4:last]},
		{"at the limit", full, all},
		{"one above it", append(slices.Clone(full), "more"), all},
		{"twice as long", append(slices.Clone(full), full...), all},
	} {
		if got := string(wire.Row(nil, c.l)); got != c.want {
			t.Errorf("Row %s: %d bytes %.30q, want %d bytes %.30q", c.name, len(got), got, len(c.want), c.want)
		}
		if got := string(wire.Row([]byte("xyz"), c.l)); got != "xyz"+c.want {
			t.Errorf("Row %s behind other bytes: %.30q", c.name, got)
		}
	}
}

// P1.1: Fits asks for most bytes at most, and for MaxBytes at most.
func TestFits(t *testing.T) {
	full := strings.Repeat("f", api.MaxBytes)
	for _, c := range []struct {
		s    string
		most int
		want bool
	}{
		{"", 0, true},
		{"", 1, true},
		{"", -1, false},
		{"", api.MinInt, false},
		{"", api.MaxInt, true},
		{"a", 0, false},
		{"a", -1, false},
		{"ab", 1, false},
		{"ab", 2, true},
		{"ab", 3, true},
		{"é", 1, false},
		{"é", 2, true},
		{full, api.MaxBytes - 1, false},
		{full, api.MaxBytes, true},
		{full, api.MaxInt, true},
		{full + "f", api.MaxBytes, false},
		{full + "f", api.MaxBytes + 1, false},
		{full + "f", api.MaxInt, false},
	} {
		if got := wire.Fits(c.s, c.most); got != c.want {
			t.Errorf("Fits(%d bytes, %d) = %v", len(c.s), c.most, got)
		}
	}
}

// writers are the three calls that write, with what they write held fast.
func writers() map[string]func(b []byte) []byte {
	return map[string]func(b []byte) []byte{
		"Number": func(b []byte) []byte { return wire.Number(b, 0x11121314) },
		"String": func(b []byte) []byte { return wire.String(b, "string") },
		"Row":    func(b []byte) []byte { return wire.Row(b, []string{"of", "", "strings"}) },
	}
}

// P1.4: neither the bytes that are handed in nor their spare room are changed by what writes behind them, or by who changes the answer.
func TestWritersShareNothing(t *testing.T) {
	for name, write := range writers() {
		for size := range 4 {
			for _, spare := range []int{0, 1, 3, 4, 5, 64, 1000} {
				whole := bytes.Repeat([]byte{7}, size+spare)
				b := whole[:size]
				first := write(b)
				kept := string(first)
				second := write(b)
				for _, answer := range [][]byte{first, second} {
					room := answer[:cap(answer)]
					for i := range room {
						room[i] = 200
					}
					if !bytes.Equal(whole, bytes.Repeat([]byte{7}, size+spare)) {
						t.Fatalf("%s: %d bytes with %d to spare were changed", name, size, spare)
					}
				}
				third := write(b)
				for i := range whole {
					whole[i] = 100
				}
				if string(third) != kept {
					t.Fatalf("%s: an answer changed with the bytes that were handed in", name)
				}
			}
		}
	}
}

// P1.4: of two answers neither is changed by the other one.
func TestAnswersShareNothing(t *testing.T) {
	for name, write := range writers() {
		for _, b := range [][]byte{nil, {}, make([]byte, 0, 99), make([]byte, 3, 99)} {
			first, second := write(b), write(b)
			kept := string(first)
			room := second[:cap(second)]
			for i := range room {
				room[i] = 200
			}
			if string(first) != kept {
				t.Errorf("%s: two answers share memory", name)
			}
			longer := write(first)
			clear(longer)
			if string(first) != kept {
				t.Errorf("%s: an answer that was handed in again was changed", name)
			}
		}
	}
}

// P1.4: a row that is handed in stays as it was, what is cut of it too.
func TestRowKeepsItsList(t *testing.T) {
	l := make([]string, api.MaxRow+2, api.MaxRow+9)
	for i := range l {
		l[i] = strings.Repeat("s", i)
	}
	whole := l[:cap(l)]
	kept := slices.Clone(whole)
	wire.Row(nil, l)
	wire.Row(nil, l[:3])
	if !slices.Equal(whole, kept) {
		t.Error("the list was changed")
	}
}
