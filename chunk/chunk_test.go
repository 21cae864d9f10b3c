package chunk_test

import (
	"math/rand"
	"slices"
	"strings"
	"testing"
	"unsafe"

	"carpetbag/api"
	"carpetbag/chunk"
)

// whole is how long a piece is that is not the last one.
const whole = 64

// number is a number's bytes, written out without the package under test, of what fits.
func number(n int) string {
	return string([]byte{byte(n >> 24), byte(n >> 16), byte(n >> 8), byte(n)})
}

// cut tells by another way what the pieces of s are: byte for byte.
func cut(s string) []string {
	var l []string
	for i := range len(s) {
		if i%whole == 0 {
			l = append(l, "")
		}
		l[i/whole] += s[i : i+1]
	}
	return l
}

// join tells by another way whose pieces l is: all of them at once, cut again.
func join(l []string) (string, bool) {
	s := strings.Join(l, "")
	if !slices.Equal(cut(s), l) {
		return "", false
	}
	return s, true
}

// edges are the lengths at which something changes, and those next to them.
func edges() []int {
	return []int{
		0, 1, 2, 31, 32, 33, 62, 63, 64, 65, 66, 127, 128, 129, 191, 192, 193, 255, 256, 257, 575, 576, 577, 599, 600, 601, 639, 640, 641,
		4095, 4096, 4097, 16383, 16384, 16385,
	}
}

// texts are strings of n bytes: alike from piece to piece, unlike at each byte, of runes that a cut goes through, and of bytes that are no UTF-8.
func texts(n int) []string {
	r := rand.New(rand.NewSource(int64(n)))
	mixed, rising := make([]byte, n), make([]byte, n)
	r.Read(mixed)
	for i := range rising {
		rising[i] = byte(i + i/256)
	}
	return []string{
		strings.Repeat("x", n),
		strings.Repeat("\x00", n),
		strings.Repeat("\xff", n),
		strings.Repeat("\xc3", n),
		strings.Repeat("\xa9", n),
		strings.Repeat("\u20ac", n)[:n],
		("a" + strings.Repeat("\U0001f9f3", n))[:n],
		string(rising),
		string(mixed),
	}
}

// row is a list of strings of those lengths, no two bytes next to each other alike.
func row(lengths ...int) []string {
	l := make([]string, len(lengths))
	from := strings.Repeat("abcdefghijklmnopqrstuvwxyz", 50)
	for i, n := range lengths {
		l[i] = from[i : i+n]
	}
	return l
}

// joins tells where Join answers otherwise than it must.
func joins(t *testing.T, l []string, want string, wantIs bool) {
	t.Helper()
	if s, is := chunk.Join(l); s != want || is != wantIs {
		t.Fatalf("Join of %d pieces %.40q: %d bytes %.20q, %v, want %d bytes %.20q, %v", len(l), l, len(s), s, is, len(want), want, wantIs)
	}
}

// refused tells where Join does not refuse.
func refused(t *testing.T, name string, l []string) {
	t.Helper()
	if s, is := chunk.Join(l); s != "" || is {
		t.Errorf("Join of %s: %d bytes %.20q, %v", name, len(s), s, is)
	}
}

// P8.1: the limit is what the document says.
func TestLimit(t *testing.T) {
	if api.MaxChunk != whole {
		t.Error(api.MaxChunk)
	}
}

// P8.1: how many pieces there are, at the edges, below them, and as far as numbers go.
func TestCount(t *testing.T) {
	for _, c := range []struct{ n, want int }{
		{0, 0},
		{1, 1},
		{2, 1},
		{63, 1},
		{64, 1},
		{65, 2},
		{127, 2},
		{128, 2},
		{129, 3},
		{600, 10},
		{639, 10},
		{640, 10},
		{641, 11},
		{4000, 63},
		{1<<14 - 1, 256},
		{1 << 14, 256},
		{1<<14 + 1, 257},
		{1<<31 - 1, 1 << 25},
		{1<<31 + 1, 1<<25 + 1},
		{1<<32 - 1, 1 << 26},
		{1 << 32, 1 << 26},
		{1<<32 + 1, 1<<26 + 1},
		{1<<62 - 1, 1 << 56},
		{1 << 62, 1 << 56},
		{1<<62 + 1, 1<<56 + 1},
		{api.MaxInt, 1 << 57},
		{api.MaxInt - 1, 1 << 57},
		{api.MaxInt - 62, 1 << 57},
		{api.MaxInt - 63, 1<<57 - 1},
		{api.MaxInt - 64, 1<<57 - 1},
		{-1, 0},
		{-3, 0},
		{-63, 0},
		{-64, 0},
		{-65, 0},
		{-128, 0},
		{-1 << 32, 0},
		{1 - 1<<32, 0},
		{api.MinInt, 0},
		{api.MinInt + 1, 0},
		{api.MinInt + 64, 0},
	} {
		if got := chunk.Count(c.n); got != c.want {
			t.Errorf("Count(%d) = %d, want %d", c.n, got, c.want)
		}
	}
}

// P8.1: one more behind each multiple of MaxChunk, and nowhere else.
func TestCountRises(t *testing.T) {
	want := 0
	for n := range 20000 {
		if n%whole == 1 {
			want++
		}
		if got := chunk.Count(n); got != want {
			t.Fatalf("Count(%d) = %d, want %d", n, got, want)
		}
		if got := chunk.Count(-n); got != 0 {
			t.Fatalf("Count(%d) = %d", -n, got)
		}
	}
}

// P8.1: the pieces, written out.
func TestCut(t *testing.T) {
	x, y, z := strings.Repeat("x", 64), strings.Repeat("y", 64), strings.Repeat("z", 63)
	for _, c := range []struct {
		name, s string
		want    []string
	}{
		{"nothing", "", nil},
		{"one byte", "a", []string{"a"}},
		{"a zero", "\x00", []string{"\x00"}},
		{"few bytes", "abc", []string{"abc"}},
		{"one less than a piece", z, []string{z}},
		{"a piece", x, []string{x}},
		{"one more than a piece", x + "a", []string{x, "a"}},
		{"one less than two", x + z, []string{x, z}},
		{"two", x + y, []string{x, y}},
		{"one more than two", x + y + "a", []string{x, y, "a"}},
		{"three, the last as the first", x + y + x, []string{x, y, x}},
		{"a rune that is cut", z + "\u00e9", []string{z + "\xc3", "\xa9"}},
		{"bytes that are no text", z + "\xff\xfe\xfd", []string{z + "\xff", "\xfe\xfd"}},
	} {
		if got := chunk.Cut(c.s); !slices.Equal(got, c.want) {
			t.Errorf("Cut of %s: %q, want %q", c.name, got, c.want)
		}
	}
}

// P8.1: the same at each length, byte for byte; all pieces have MaxChunk bytes but the last, which has one at least.
func TestCutAtEachLength(t *testing.T) {
	for n := range 1300 {
		for _, s := range texts(n) {
			l := chunk.Cut(s)
			if !slices.Equal(l, cut(s)) {
				t.Fatalf("Cut of %d bytes %.20q: %q", n, s, l)
			}
			for i, piece := range l {
				if len(piece) < 1 || len(piece) > whole || i < len(l)-1 && len(piece) != whole {
					t.Fatalf("Cut of %d bytes: piece %d of %d has %d bytes", n, i, len(l), len(piece))
				}
			}
		}
	}
}

// P8.1: no pieces are those of the empty string, be the list nil or empty.
func TestJoinNone(t *testing.T) {
	joins(t, nil, "", true)
	joins(t, []string{}, "", true)
	joins(t, make([]string, 0, 9), "", true)
	joins(t, row(64, 64)[:0], "", true)
}

// P8.1: pieces are joined in their order, at each length.
func TestJoin(t *testing.T) {
	x, y, z := strings.Repeat("x", 64), strings.Repeat("y", 64), strings.Repeat("z", 63)
	joins(t, []string{"a"}, "a", true)
	joins(t, []string{z}, z, true)
	joins(t, []string{x}, x, true)
	joins(t, []string{x, "a"}, x+"a", true)
	joins(t, []string{x, z}, x+z, true)
	joins(t, []string{x, y}, x+y, true)
	joins(t, []string{y, x}, y+x, true)
	joins(t, []string{x, x, y, "\xff"}, x+x+y+"\xff", true)
	for n := range 1300 {
		for _, s := range texts(n) {
			joins(t, cut(s), s, true)
		}
	}
}

// P8.1: what is no string's pieces is told so, and nothing is joined.
func TestJoinWrong(t *testing.T) {
	for _, c := range []struct {
		name string
		l    []string
	}{
		{"an empty piece alone", row(0)},
		{"two empty ones", row(0, 0)},
		{"many empty ones", make([]string, 99)},
		{"an empty one at the end", row(64, 0)},
		{"an empty one behind a short one", row(5, 0)},
		{"an empty one at the beginning", row(0, 64)},
		{"an empty one ahead of a short one", row(0, 5)},
		{"an empty one between others", row(64, 0, 64)},
		{"an empty one ahead of the last, short one", row(64, 0, 5)},
		{"an empty one at the end of many", row(64, 64, 64, 0)},
		{"one that is too long", row(65)},
		{"one that is twice as long", row(128)},
		{"one that is far too long", row(600)},
		{"one that is too long at the end", row(64, 65)},
		{"one that is too long at the beginning", row(65, 64)},
		{"one that is too long ahead of a short one", row(65, 1)},
		{"one that is twice as long at the beginning", row(128, 64)},
		{"one that is too long between others", row(64, 65, 64)},
		{"one that is too short ahead of the last", row(63, 64)},
		{"two that are short", row(1, 1)},
		{"two that are one together", row(32, 32)},
		{"two that are one together, the last one byte", row(63, 1)},
		{"one that is too short in the middle", row(64, 63, 64)},
		{"one that is too short ahead of the last, short one", row(64, 63, 1)},
		{"one too short, one too long", row(63, 65)},
		{"one too long, one too short", row(65, 63, 64)},
	} {
		refused(t, c.name, c.l)
	}
}

// P8.1: bytes are counted, not runes: 33 runes may be too long, and 32 a whole piece.
func TestJoinCountsBytes(t *testing.T) {
	joins(t, []string{strings.Repeat("\u00e9", 32)}, strings.Repeat("\u00e9", 32), true)
	refused(t, "33 runes of two bytes", []string{strings.Repeat("\u00e9", 33)})
	refused(t, "64 runes of two bytes", []string{strings.Repeat("\u00e9", 64), "a"})
	refused(t, "63 runes of one byte ahead of others", []string{strings.Repeat("e", 63), "a"})
}

// P8.1: lists of all those lengths, up to five pieces, right ones and wrong ones.
func TestJoinAllLengths(t *testing.T) {
	lengths := []int{0, 1, 2, 63, 64, 65, 128}
	right := 0
	var walk func(so []int)
	walk = func(so []int) {
		l := row(so...)
		want, is := join(l)
		joins(t, l, want, is)
		if is {
			right++
		}
		if len(so) == 5 {
			return
		}
		for _, n := range lengths {
			walk(append(slices.Clone(so), n))
		}
	}
	walk(nil)
	// None, or up to four whole ones, and behind them one of 1, 2, 63 or 64 bytes.
	if right != 1+5*4 {
		t.Error("right lists:", right)
	}
}

// P8.1: of many pieces one is another length, at each place.
func TestJoinOneWrong(t *testing.T) {
	for _, last := range []int{1, 40, 64} {
		lengths := append(slices.Repeat([]int{64}, 20), last)
		for at, kept := range lengths {
			for _, n := range []int{0, 1, 32, 63, 64, 65, 128, 1200} {
				lengths[at] = n
				l := row(lengths...)
				want, is := join(l)
				joins(t, l, want, is)
				if fine := n == 64 || at == 20 && n >= 1 && n <= 64; fine != is {
					t.Fatal("the other way of telling is wrong", at, n)
				}
			}
			lengths[at] = kept
		}
	}
}

// P8.2: the bytes of the three numbers, one behind the other.
func TestLabel(t *testing.T) {
	for _, c := range []struct {
		author, version, at int
		want                string
	}{
		{0, 0, 0, "\x00\x00\x00\x00\x00\x00\x00\x00\x00\x00\x00\x00"},
		{1, 0, 0, "\x00\x00\x00\x01\x00\x00\x00\x00\x00\x00\x00\x00"},
		{0, 1, 0, "\x00\x00\x00\x00\x00\x00\x00\x01\x00\x00\x00\x00"},
		{0, 0, 1, "\x00\x00\x00\x00\x00\x00\x00\x00\x00\x00\x00\x01"},
		{1, 2, 300, "\x00\x00\x00\x01\x00\x00\x00\x02\x00\x00\x01\x2c"},
		{300, 2, 1, "\x00\x00\x01\x2c\x00\x00\x00\x02\x00\x00\x00\x01"},
		{0x01020304, 0x05060708, 0x090a0b0c, "\x01\x02\x03\x04\x05\x06\x07\x08\x09\x0a\x0b\x0c"},
		{0xfefdfcfb, 0xfaf9f8f7, 0xf6f5f4f3, "\xfe\xfd\xfc\xfb\xfa\xf9\xf8\xf7\xf6\xf5\xf4\xf3"},
		{api.MaxNumber, 0, api.MaxNumber - 1, "\xff\xff\xff\xff\x00\x00\x00\x00\xff\xff\xff\xfe"},
		{api.MaxNumber, api.MaxNumber, api.MaxNumber, "\xff\xff\xff\xff\xff\xff\xff\xff\xff\xff\xff\xff"},
		{api.MaxNumber + 1, 7, 7, "\xff\xff\xff\xff\x00\x00\x00\x07\x00\x00\x00\x07"},
		{7, api.MaxNumber + 1, 7, "\x00\x00\x00\x07\xff\xff\xff\xff\x00\x00\x00\x07"},
		{7, 7, api.MaxNumber + 1, "\x00\x00\x00\x07\x00\x00\x00\x07\xff\xff\xff\xff"},
		{-1, 7, 7, "\x00\x00\x00\x00\x00\x00\x00\x07\x00\x00\x00\x07"},
		{7, -1, 7, "\x00\x00\x00\x07\x00\x00\x00\x00\x00\x00\x00\x07"},
		{7, 7, -1, "\x00\x00\x00\x07\x00\x00\x00\x07\x00\x00\x00\x00"},
		{api.MinInt, api.MaxInt, api.MinInt, "\x00\x00\x00\x00\xff\xff\xff\xff\x00\x00\x00\x00"},
		{api.MaxInt, api.MinInt, api.MaxInt, "\xff\xff\xff\xff\x00\x00\x00\x00\xff\xff\xff\xff"},
		{1<<40 + 7, -1<<40 + 7, 1 << 32, "\xff\xff\xff\xff\x00\x00\x00\x00\xff\xff\xff\xff"},
	} {
		if got := chunk.Label(c.author, c.version, c.at); got != c.want {
			t.Errorf("Label(%d, %d, %d) = %q, want %q", c.author, c.version, c.at, got, c.want)
		}
	}
}

// fitting are numbers that have bytes of their own, many of them with the same bytes at other places.
func fitting() []int {
	return []int{0, 1, 2, 9, 64, 127, 128, 200, 255, 256, 257, 300, 512, 1 << 16, 1<<16 + 1, 1 << 24, 1<<24 + 1, 1<<31 - 1, 1 << 31, api.MaxNumber - 256, api.MaxNumber - 1, api.MaxNumber}
}

// P8.2: the same for all numbers, in each of the three places; what does not fit is as the nearest that does.
func TestLabelAtEachPlace(t *testing.T) {
	bytes := map[int]string{-1: number(0), -1 << 32: number(0), api.MinInt: number(0), api.MaxNumber + 1: number(api.MaxNumber), 1 << 40: number(api.MaxNumber), api.MaxInt: number(api.MaxNumber)}
	for _, n := range fitting() {
		bytes[n] = number(n)
	}
	for author, a := range bytes {
		for version, v := range bytes {
			for at, p := range bytes {
				if got := chunk.Label(author, version, at); got != a+v+p {
					t.Fatalf("Label(%d, %d, %d) = %q, want %q", author, version, at, got, a+v+p)
				}
			}
		}
	}
}

// shares tells whether the bytes of a and b overlap.
func shares(a, b string) bool {
	if a == "" || b == "" {
		return false
	}
	p, q := uintptr(unsafe.Pointer(unsafe.StringData(a))), uintptr(unsafe.Pointer(unsafe.StringData(b)))
	return p < q+uintptr(len(b)) && q < p+uintptr(len(a))
}

// P8.3: the pieces that are answered have bytes of their own, and share them neither with the string nor with each other, nor with another answer.
func TestPiecesAreNew(t *testing.T) {
	for _, n := range edges()[:26] {
		for _, text := range texts(n) {
			s := strings.Clone(text)
			first, second := chunk.Cut(s), chunk.Cut(s)
			all := append(slices.Clone(first), second...)
			for i, piece := range all {
				if shares(piece, s) {
					t.Fatalf("of %d bytes piece %d shares memory with the string", n, i)
				}
				for k := range i {
					if shares(piece, all[k]) {
						t.Fatalf("of %d bytes the pieces %d and %d share memory", n, k, i)
					}
				}
			}
		}
	}
}

// P8.3: who changes a list that was answered, or its spare room, changes no other answer.
func TestListsAreNew(t *testing.T) {
	for _, n := range edges() {
		s := texts(n)[7]
		kept, l := chunk.Cut(s), chunk.Cut(s)
		room := l[:cap(l)]
		for i := range room {
			room[i] = "changed"
		}
		_ = append(l[:0], "longer")
		if !slices.Equal(kept, cut(s)) || !slices.Equal(chunk.Cut(s), cut(s)) {
			t.Fatalf("of %d bytes the pieces changed with those of another answer", n)
		}
	}
}

// P8.3: what is joined has bytes of its own, of one piece alone too.
func TestJoinedIsNew(t *testing.T) {
	for _, n := range edges() {
		for _, text := range texts(n) {
			l := cut(strings.Clone(text))
			for i, piece := range l {
				l[i] = strings.Clone(piece)
			}
			first, _ := chunk.Join(l)
			second, _ := chunk.Join(l)
			if shares(first, second) {
				t.Fatalf("of %d bytes two answers share memory", n)
			}
			for i, piece := range l {
				if shares(first, piece) || shares(second, piece) {
					t.Fatalf("of %d bytes what is joined shares memory with piece %d", n, i)
				}
			}
		}
	}
}

// P8.3: two labels of the same numbers share no bytes.
func TestLabelIsNew(t *testing.T) {
	for _, n := range fitting() {
		a, b := chunk.Label(n, 2, 3), chunk.Label(n, 2, 3)
		if a != b || shares(a, b) {
			t.Errorf("Label(%d, 2, 3): %q, %q", n, a, b)
		}
	}
}

// P8.3: a list that is handed in stays as it was, its spare room too, be it right or wrong, and nothing of it is kept.
func TestJoinKeepsItsList(t *testing.T) {
	for _, lengths := range [][]int{{}, {1}, {64}, {64, 5}, {64, 64, 64}, {0}, {64, 0}, {64, 0, 64}, {65}, {64, 65}, {63, 64}, {65, 1, 64}} {
		room := append(row(lengths...), row(64, 64, 3, 0, 70)...)
		kept := slices.Clone(room)
		l := room[:len(lengths)]
		want, wantIs := join(l)
		joins(t, l, want, wantIs)
		if !slices.Equal(room, kept) {
			t.Fatalf("Join changed a list of the lengths %v", lengths)
		}
		s, _ := chunk.Join(l)
		for i := range room {
			room[i] = "changed"
		}
		if s != want {
			t.Fatalf("what was joined changed with the list of the lengths %v", lengths)
		}
		joins(t, kept[:len(lengths)], want, wantIs)
	}
}

// P8.3: the string that is handed in stays as it was, though it stands within a longer one.
func TestCutKeepsItsString(t *testing.T) {
	for _, n := range edges() {
		for _, text := range texts(n) {
			around := "ahead" + text + "behind"
			chunk.Cut(around[5 : 5+n])
			if around != "ahead"+text+"behind" {
				t.Fatalf("Cut changed a string of %d bytes", n)
			}
		}
	}
}

// P8.4: what was cut is joined as it was, and there are Count pieces.
func TestToAndFro(t *testing.T) {
	lengths := edges()
	for n := range 700 {
		lengths = append(lengths, n)
	}
	for _, n := range append(lengths, 1<<20, 1<<20+1) {
		for _, s := range texts(n) {
			l := chunk.Cut(s)
			if len(l) != chunk.Count(n) {
				t.Fatalf("%d bytes have %d pieces, and Count tells %d", n, len(l), chunk.Count(n))
			}
			joins(t, l, s, true)
		}
	}
}

// P8.4: what was joined is cut as it was, so no two lists are joined alike.
func TestFroAndTo(t *testing.T) {
	for full := range 6 {
		for last := range whole + 1 {
			lengths := slices.Repeat([]int{64}, full)
			if last > 0 {
				lengths = append(lengths, last)
			}
			l := row(lengths...)
			s, is := chunk.Join(l)
			if !is || !slices.Equal(chunk.Cut(s), l) || chunk.Count(len(s)) != len(l) {
				t.Fatalf("%d whole pieces and one of %d bytes: %v, %d bytes", full, last, is, len(s))
			}
		}
	}
}

// P8.4: labels of numbers that fit are alike just if all three are.
func TestLabelsApart(t *testing.T) {
	from := map[string][3]int{}
	for _, author := range fitting() {
		for _, version := range fitting() {
			for _, at := range fitting() {
				label := chunk.Label(author, version, at)
				if other, is := from[label]; is {
					t.Fatalf("Label of %v, and of %v: %q", other, [3]int{author, version, at}, label)
				}
				from[label] = [3]int{author, version, at}
				if again := chunk.Label(author, version, at); again != label {
					t.Fatalf("Label(%d, %d, %d) = %q, then %q", author, version, at, label, again)
				}
			}
		}
	}
}

// sliced is s in parts of those lengths, one behind the other, as far as it goes, and the rest.
func sliced(s string, lengths []byte) []string {
	var l []string
	for _, n := range lengths {
		n := min(int(n), len(s))
		l = append(l, s[:n])
		s = s[n:]
	}
	if s != "" {
		l = append(l, s)
	}
	return l
}

// FuzzPieces holds Count, Cut, Join and Label against the other ways, at any bytes, cut right, and cut anyhow.
func FuzzPieces(f *testing.F) {
	f.Add("", []byte{}, 0, 0, 0)
	f.Add("ab", []byte{1, 1}, 1, 2, 300)
	f.Add(strings.Repeat("\xff", 129), []byte{64, 64, 1}, -1, api.MaxNumber, api.MaxNumber+1)
	f.Add(strings.Repeat("z", 130), []byte{64, 0, 66}, api.MinInt, api.MaxInt, 64)
	f.Fuzz(func(t *testing.T, s string, lengths []byte, author, version, at int) {
		s = s[:min(len(s), 1<<12)]
		l := chunk.Cut(s)
		if !slices.Equal(l, cut(s)) || len(l) != chunk.Count(len(s)) {
			t.Errorf("Cut of %q: %q", s, l)
		}
		joins(t, l, s, true)
		parts := sliced(s, lengths[:min(len(lengths), 100)])
		want, is := join(parts)
		joins(t, parts, want, is)
		label := ""
		for _, n := range []int{author, version, at} {
			label += number(min(max(n, 0), 1<<32-1))
		}
		if got := chunk.Label(author, version, at); got != label {
			t.Errorf("Label(%d, %d, %d) = %q, want %q", author, version, at, got, label)
		}
	})
}
