package wire_test

import (
	"fmt"
	"slices"
	"strings"
	"testing"

	"carpetbag/api"
	"carpetbag/wire"
)

// stands fails unless r has that error, and is at that place.
func stands(t *testing.T, what string, r *wire.Reader, err api.Errno, at int) {
	t.Helper()
	if r.Err() != err || r.At() != at {
		t.Errorf("%s: Err %d, At %d, want %d, %d", what, r.Err(), r.At(), err, at)
	}
}

// stuck fails if a reader with an error reads on, tells another error, or goes anywhere.
func stuck(t *testing.T, what string, r *wire.Reader) {
	t.Helper()
	err, at := r.Err(), r.At()
	if err == api.OK {
		t.Errorf("%s: no error", what)
	}
	for range 2 {
		if n := r.Number(api.MaxInt); n != 0 {
			t.Errorf("%s: Number tells %d behind an error", what, n)
		}
		stands(t, what+", then Number", r, err, at)
		if n := r.Number(-1); n != 0 {
			t.Errorf("%s: Number of -1 tells %d behind an error", what, n)
		}
		stands(t, what+", then Number of -1", r, err, at)
		if s := r.String(api.MaxInt); s != "" {
			t.Errorf("%s: String tells %q behind an error", what, s)
		}
		stands(t, what+", then String", r, err, at)
		if l := r.Row(api.MaxInt, api.MaxInt); len(l) != 0 {
			t.Errorf("%s: Row tells %q behind an error", what, l)
		}
		stands(t, what+", then Row", r, err, at)
		if e := r.End(); e != err {
			t.Errorf("%s: End tells %d, want %d", what, e, err)
		}
		stands(t, what+", then End", r, err, at)
	}
}

// ahead is one number, read ahead of what is tested: so the place is not the beginning.
const ahead = "\x00\x00\x00\x05"

// behind is what follows upon what is tested, and is a number, a string and a row alike: a reader that reads on finds it.
const behind = "\x00\x00\x00\x00"

// P1.2: a reader begins at 0, without an error.
func TestReadBegins(t *testing.T) {
	for _, b := range [][]byte{nil, {}, {1}, []byte(ahead)} {
		stands(t, fmt.Sprintf("Read of %d bytes", len(b)), wire.Read(b), api.OK, 0)
	}
}

// P1.2: Number tells ErrForm, if four bytes are not there, and ErrRange, if they tell more than most.
func TestReadNumber(t *testing.T) {
	for _, c := range []struct {
		bytes string
		most  int
		want  int
		err   api.Errno
	}{
		{"\x00\x00\x00\x00", 0, 0, api.OK},
		{"\x00\x00\x00\x00", 1, 0, api.OK},
		{"\x00\x00\x00\x00", api.MaxInt, 0, api.OK},
		{"\x00\x00\x00\x00", -1, 0, api.ErrRange},
		{"\x00\x00\x00\x00", api.MinInt, 0, api.ErrRange},
		{"\x00\x00\x00\x09", 10, 9, api.OK},
		{"\x00\x00\x00\x09", 9, 9, api.OK},
		{"\x00\x00\x00\x09", 8, 0, api.ErrRange},
		{"\x00\x00\x00\x09", 0, 0, api.ErrRange},
		{"\x00\x00\x00\x09", -9, 0, api.ErrRange},
		{"\x01\x02\x03\x04", api.MaxInt, 0x01020304, api.OK},
		{"\x80\x00\x00\x00", 1 << 31, 1 << 31, api.OK},
		{"\x80\x00\x00\x00", 1<<31 - 1, 0, api.ErrRange},
		{"\x80\x00\x00\x00", -1 << 31, 0, api.ErrRange},
		{"\xff\xff\xff\xff", api.MaxNumber, api.MaxNumber, api.OK},
		{"\xff\xff\xff\xff", api.MaxNumber - 1, 0, api.ErrRange},
		{"\xff\xff\xff\xff", api.MaxNumber + 1, api.MaxNumber, api.OK},
		{"\xff\xff\xff\xff", api.MaxInt, api.MaxNumber, api.OK},
		{"\xff\xff\xff\xff", -1, 0, api.ErrRange},
		{"", api.MaxInt, 0, api.ErrForm},
		{"\x00", api.MaxInt, 0, api.ErrForm},
		{"\x00\x00", api.MaxInt, 0, api.ErrForm},
		{"\x00\x00\x00", api.MaxInt, 0, api.ErrForm},
		{"\xff\xff\xff", 0, 0, api.ErrForm},
		{"", -1, 0, api.ErrForm},
	} {
		what := fmt.Sprintf("Number(%d) of %q", c.most, c.bytes)
		r := wire.Read([]byte(ahead + c.bytes))
		r.Number(9)
		if got := r.Number(c.most); got != c.want {
			t.Errorf("%s = %d, want %d", what, got, c.want)
		}
		if c.err == api.OK {
			stands(t, what, r, api.OK, 8)
			continue
		}
		stands(t, what, r, c.err, 4)
		stuck(t, what, r)
	}
}

// P1.2: String reads the number as Number of most and MaxBytes, the lesser; ErrForm, if so many bytes are not there.
func TestReadString(t *testing.T) {
	full := strings.Repeat("f", api.MaxBytes)
	for _, c := range []struct {
		name, bytes string
		most        int
		want        string
		err         api.Errno
	}{
		{"none, most 0", number(0) + behind, 0, "", api.OK},
		{"none, most -1", number(0) + behind, -1, "", api.ErrRange},
		{"none, most MinInt", number(0) + behind, api.MinInt, "", api.ErrRange},
		{"two, most 2", number(2) + "ab" + behind, 2, "ab", api.OK},
		{"two, most 3", number(2) + "ab" + behind, 3, "ab", api.OK},
		{"two, most 1", number(2) + "ab" + behind, 1, "", api.ErrRange},
		{"two, most 0", number(2) + "ab" + behind, 0, "", api.ErrRange},
		{"no text", number(3) + "\x00\xff\x80" + behind, 3, "\x00\xff\x80", api.OK},
		{"full, most MaxBytes", number(api.MaxBytes) + full + behind, api.MaxBytes, full, api.OK},
		{"full, most above", number(api.MaxBytes) + full + behind, api.MaxBytes + 1, full, api.OK},
		{"full, most MaxInt", number(api.MaxBytes) + full + behind, api.MaxInt, full, api.OK},
		{"full, most below", number(api.MaxBytes) + full + behind, api.MaxBytes - 1, "", api.ErrRange},
		{"above, most above", number(api.MaxBytes+1) + full + "f" + behind, api.MaxBytes + 1, "", api.ErrRange},
		{"above, most MaxInt", number(api.MaxBytes+1) + full + "f" + behind, api.MaxInt, "", api.ErrRange},
		{"MaxNumber, most MaxInt", "\xff\xff\xff\xff" + full, api.MaxInt, "", api.ErrRange},
		{"too many and too early", number(9) + "ab", 8, "", api.ErrRange},
		{"no number", "", 9, "", api.ErrForm},
		{"no whole number", "\x00\x00\x00", 9, "", api.ErrForm},
		{"no number, most -1", "\x00\x00\x00", -1, "", api.ErrForm},
		{"no byte of two", number(2), 9, "", api.ErrForm},
		{"one byte of two", number(2) + "a", 9, "", api.ErrForm},
		{"one byte below full", number(api.MaxBytes) + full[1:], api.MaxBytes, "", api.ErrForm},
	} {
		r := wire.Read([]byte(ahead + c.bytes))
		r.Number(9)
		if got := r.String(c.most); got != c.want {
			t.Errorf("%s: %.20q, want %.20q", c.name, got, c.want)
		}
		if c.err == api.OK {
			stands(t, c.name, r, api.OK, 8+len(c.want))
			continue
		}
		stands(t, c.name, r, c.err, 4)
		stuck(t, c.name, r)
	}
}

// rowBytes is a row's bytes, written out without the package under test.
func rowBytes(l ...string) string {
	s := number(len(l))
	for _, x := range l {
		s += number(len(x)) + x
	}
	return s
}

// P1.2: Row reads the number as Number of most and MaxRow, the lesser; so many strings, each as String(each).
func TestReadRow(t *testing.T) {
	full := slices.Repeat([]string{"r"}, api.MaxRow)
	more := append(slices.Clone(full), "r")
	long := strings.Repeat("l", api.MaxBytes)
	for _, c := range []struct {
		name, bytes string
		most, each  int
		want        []string
		err         api.Errno
	}{
		{"none, most 0", rowBytes() + behind, 0, 0, nil, api.OK},
		{"none, each -1", rowBytes() + behind, 0, -1, nil, api.OK},
		{"none, each MinInt", rowBytes() + behind, 9, api.MinInt, nil, api.OK},
		{"none, most -1", rowBytes() + behind, -1, 9, nil, api.ErrRange},
		{"none, most MinInt", rowBytes() + behind, api.MinInt, 9, nil, api.ErrRange},
		{"one empty, each 0", rowBytes("") + behind, 1, 0, []string{""}, api.OK},
		{"one empty, each -1", rowBytes("") + behind, 1, -1, nil, api.ErrRange},
		{"two, most 2", rowBytes("c", "ab") + behind, 2, 2, []string{"c", "ab"}, api.OK},
		{"two, most 3", rowBytes("c", "ab") + behind, 3, 3, []string{"c", "ab"}, api.OK},
		{"two, most 1", rowBytes("c", "ab") + behind, 1, 9, nil, api.ErrRange},
		{"two, each 1", rowBytes("c", "ab") + behind, 2, 1, nil, api.ErrRange},
		{"two, each 0", rowBytes("c", "ab") + behind, 2, 0, nil, api.ErrRange},
		{"two, each -1", rowBytes("c", "ab") + behind, 2, -1, nil, api.ErrRange},
		{"full, most MaxRow", rowBytes(full...) + behind, api.MaxRow, 1, full, api.OK},
		{"full, most above", rowBytes(full...) + behind, api.MaxRow + 1, 1, full, api.OK},
		{"full, most MaxInt", rowBytes(full...) + behind, api.MaxInt, api.MaxInt, full, api.OK},
		{"full, most below", rowBytes(full...) + behind, api.MaxRow - 1, 1, nil, api.ErrRange},
		{"above, most above", rowBytes(more...) + behind, api.MaxRow + 1, 1, nil, api.ErrRange},
		{"above, most MaxInt", rowBytes(more...) + behind, api.MaxInt, api.MaxInt, nil, api.ErrRange},
		{"MaxNumber, most MaxInt", "\xff\xff\xff\xff" + behind, api.MaxInt, api.MaxInt, nil, api.ErrRange},
		{"long, each MaxBytes", rowBytes("a", long) + behind, 2, api.MaxBytes, []string{"a", long}, api.OK},
		{"long, each MaxInt", rowBytes("a", long) + behind, 2, api.MaxInt, []string{"a", long}, api.OK},
		{"long, each below", rowBytes("a", long) + behind, 2, api.MaxBytes - 1, nil, api.ErrRange},
		{"longer, each above", rowBytes("a", long+"l") + behind, 2, api.MaxBytes + 1, nil, api.ErrRange},
		{"longer, each MaxInt", rowBytes("a", long+"l") + behind, 2, api.MaxInt, nil, api.ErrRange},
		{"the first one's error counts", number(2) + number(9) + "ab", 2, 8, nil, api.ErrRange},
		{"too many ahead of too early", number(9), 8, 9, nil, api.ErrRange},
	} {
		r := wire.Read([]byte(ahead + c.bytes))
		r.Number(9)
		if got := r.Row(c.most, c.each); !slices.Equal(got, c.want) {
			t.Errorf("%s: %d strings, want %d", c.name, len(got), len(c.want))
		}
		if c.err == api.OK {
			stands(t, c.name, r, api.OK, 4+len(rowBytes(c.want...)))
			if n := r.Number(0); n != 0 || r.End() != api.OK {
				t.Errorf("%s: not behind what it read", c.name)
			}
			continue
		}
		stands(t, c.name, r, c.err, 4)
		stuck(t, c.name, r)
	}
}

// P1.2: bytes that end too early are told as ErrForm, at whichever place they end; the place is where the call began.
func TestReadTooEarly(t *testing.T) {
	whole := ahead + rowBytes("abc", "", "de")
	for end := 4; end < len(whole); end++ {
		what := fmt.Sprintf("Row of the first %d bytes", end)
		r := wire.Read([]byte(whole[:end]))
		r.Number(9)
		if l := r.Row(9, 9); len(l) != 0 {
			t.Errorf("%s: %q", what, l)
		}
		stands(t, what, r, api.ErrForm, 4)
		stuck(t, what, r)
	}
	whole = ahead + number(3) + "abc"
	for end := 4; end < len(whole); end++ {
		what := fmt.Sprintf("String of the first %d bytes", end)
		r := wire.Read([]byte(whole[:end]))
		r.Number(9)
		if s := r.String(9); s != "" {
			t.Errorf("%s: %q", what, s)
		}
		stands(t, what, r, api.ErrForm, 4)
		stuck(t, what, r)
	}
}

// P1.2: bytes that lie behind the length of what is handed in, in its spare room, are not there.
func TestReadNoSpareRoom(t *testing.T) {
	b := []byte(rowBytes("abc"))
	for end := range b {
		r := wire.Read(b[:end])
		if l := r.Row(9, 9); len(l) != 0 || r.Err() != api.ErrForm {
			t.Errorf("Row of %d bytes with more to spare: %q, %d", end, l, r.Err())
		}
	}
	if r := wire.Read(b[:0]); r.End() != api.OK {
		t.Error("spare room is taken for bytes behind the place")
	}
}

// P1.3: End tells ErrForm, if there are bytes behind the place, and that is the error from then on.
func TestEnd(t *testing.T) {
	for _, b := range []string{"", number(7), number(7) + number(8)} {
		r := wire.Read([]byte(b))
		for range len(b) / 4 {
			r.Number(9)
		}
		for range 2 {
			if e := r.End(); e != api.OK {
				t.Errorf("End of %q: %d", b, e)
			}
			stands(t, "the end", r, api.OK, len(b))
		}
	}
	for _, b := range []string{"\x00", number(7), number(7) + "\x00"} {
		for read := range len(b)/4 + 1 {
			if read*4 == len(b) {
				continue
			}
			r := wire.Read([]byte(b))
			for range read {
				r.Number(9)
			}
			what := fmt.Sprintf("End of %q behind %d numbers", b, read)
			stands(t, what, r, api.OK, read*4)
			if e := r.End(); e != api.ErrForm {
				t.Errorf("%s: %d", what, e)
			}
			stands(t, what, r, api.ErrForm, read*4)
			stuck(t, what, r)
		}
	}
}

// P1.3: End that told OK is no error: what is read behind it is told as it is without End.
func TestEndTwice(t *testing.T) {
	r := wire.Read([]byte(number(3)))
	r.Number(9)
	r.End()
	if r.Number(9) != 0 {
		t.Error("a number behind the end")
	}
	stands(t, "behind the end", r, api.ErrForm, 4)
}

// P1.3: End tells an error that was there, be there bytes behind the place or not.
func TestEndKeepsError(t *testing.T) {
	r := wire.Read([]byte(number(9)))
	r.Number(8)
	if e := r.End(); e != api.ErrRange {
		t.Errorf("End tells %d", e)
	}
	r = wire.Read(nil)
	r.Number(8)
	if e := r.End(); e != api.ErrForm {
		t.Errorf("End of nothing tells %d", e)
	}
}

// P1.4: the bytes that are handed in to Read are neither changed nor kept.
func TestReadKeepsNothing(t *testing.T) {
	text := number(7) + number(2) + "ab" + rowBytes("c", "de")
	b := append(make([]byte, 0, 99), text...)
	r := wire.Read(b)
	n := r.Number(9)
	clear(b[:cap(b)])
	s, l := r.String(9), r.Row(9, 9)
	if n != 7 || s != "ab" || !slices.Equal(l, []string{"c", "de"}) || r.End() != api.OK {
		t.Error("what is read changed with the bytes that were handed in:", n, s, l)
	}
	b = append(b[:0], text...)
	r = wire.Read(b)
	r.Number(9)
	r.String(9)
	r.Row(9, 9)
	r.End()
	if string(b) != text || strings.Trim(string(b[len(b):cap(b)]), "\x00") != "" {
		t.Error("the bytes, or their spare room, were changed")
	}
}

// P1.4: a row that was read is its caller's own: changing it changes neither the reader nor another row.
func TestRowsShareNothing(t *testing.T) {
	b := []byte(rowBytes("a", "b", "c") + rowBytes("d", "e"))
	r := wire.Read(b)
	first := r.Row(9, 9)
	kept := slices.Clone(first)
	for i := range first[:cap(first)] {
		first[:cap(first)][i] = "x"
	}
	second := r.Row(9, 9)
	if !slices.Equal(second, []string{"d", "e"}) || r.End() != api.OK {
		t.Error("a row changed with the one ahead:", second)
	}
	if again := wire.Read(b).Row(9, 9); !slices.Equal(again, kept) {
		t.Error("a row changed with that of another reader:", again)
	}
}

// P1.2: two readers of the same bytes go each its own way.
func TestReadersApart(t *testing.T) {
	b := []byte(number(1) + number(2))
	r, q := wire.Read(b), wire.Read(b)
	r.Number(9)
	r.Number(0)
	stands(t, "the one", r, api.ErrRange, 4)
	stands(t, "the other", q, api.OK, 0)
	if q.Number(9) != 1 || q.Number(9) != 2 || q.End() != api.OK {
		t.Error("a reader is moved by another one")
	}
}
