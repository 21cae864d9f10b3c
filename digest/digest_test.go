package digest_test

import (
	"math/rand"
	"slices"
	"strconv"
	"strings"
	"testing"
	"unsafe"

	"carpetbag/api"
	"carpetbag/digest"
)

// texts are strings, no two of them alike, though many nearly so.
func texts() []string {
	return []string{
		"", "a", "b", "A", "ab", "ba", "aa", "aaa", "a ", " a", "a\x00", "\x00a", "\x00", "\x00\x00", "\xff", "\xff\xff", "0", "1", "2",
		"\u00e9", "e\u0301", "\xc3", "\xa9", "\xe9", "\ufffd", "\xf0\x9f", "a/b", "a\n", "\n",
		strings.Repeat("x", 600), strings.Repeat("x", 601), strings.Repeat("x", 599) + "y", "y" + strings.Repeat("x", 599),
		strings.Repeat("\x00", 1<<14), strings.Repeat("\x00", 1<<14+1), strings.Repeat("z", 1<<16),
	}
}

// noDigests are numbers that are no digest, of a table that knows n strings.
func noDigests(n int) []int {
	return []int{0, -1, -2, -n, -n - 1, n + 1, n + 2, 2*n + 1, 1 << 17, 1 << 32, 1<<32 + 1, 1<<32 + n, -1 << 32, 1 - 1<<32, api.MaxInt, api.MaxInt - 1, api.MinInt, api.MinInt + 1, api.MinInt + n}
}

// model is what a table must be, told by another way: the strings in the order in which they came.
type model []string

// of is what Of must answer.
func (m *model) of(s string) (int, api.Errno) {
	if i := slices.Index(*m, s); i >= 0 {
		return i + 1, api.OK
	}
	if len(*m) >= 1<<16 {
		return 0, api.ErrFull
	}
	*m = append(*m, s)
	return len(*m), api.OK
}

// give asks for a digest, and tells where it is another one than it must be.
func give(t *testing.T, x *digest.Table, s string, want int, wantErr api.Errno) {
	t.Helper()
	if d, err := x.Of(s); d != want || err != wantErr {
		t.Fatalf("Of(%.20q) = %d, %v, want %d, %v", s, d, err, want, wantErr)
	}
}

// holds tells where the table knows another row of strings than that.
func holds(t *testing.T, x *digest.Table, m model) {
	t.Helper()
	if x.Len() != len(m) {
		t.Fatalf("Len() = %d, want %d", x.Len(), len(m))
	}
	for i, s := range m {
		if got, is := x.Text(i + 1); got != s || !is {
			t.Fatalf("Text(%d) = %.20q, %v, want %.20q", i+1, got, is, s)
		}
		if !x.Known(s) {
			t.Fatalf("Known(%.20q) is false", s)
		}
	}
	for _, d := range noDigests(len(m)) {
		if got, is := x.Text(d); got != "" || is {
			t.Fatalf("Text(%d) = %.20q, %v, of %d strings", d, got, is, len(m))
		}
	}
}

// unlike is one of many strings.
func unlike(i int) string { return "s" + strconv.Itoa(i) }

// full is a table that knows n strings, and these in order.
func full(t *testing.T, n int) (*digest.Table, model) {
	t.Helper()
	x, m := digest.New(), model{}
	for i := range n {
		give(t, x, unlike(i), i+1, api.OK)
		m = append(m, unlike(i))
	}
	return x, m
}

// P6.1: a new table knows no string, the empty one neither.
func TestNew(t *testing.T) {
	x := digest.New()
	holds(t, x, nil)
	for _, s := range texts() {
		if x.Known(s) {
			t.Errorf("Known(%.20q) of a new table", s)
		}
	}
	for d := -300; d <= 300; d++ {
		if got, is := x.Text(d); got != "" || is {
			t.Errorf("Text(%d) = %q, %v, of a new table", d, got, is)
		}
	}
	holds(t, x, nil)
}

// P6.1: the examples, and the strings of which they are told.
func TestExamples(t *testing.T) {
	x := digest.New()
	for k, s := range []string{"a", "b", "a"} {
		give(t, x, s, []int{1, 2, 1}[k], api.OK)
	}
	holds(t, x, model{"a", "b"})
}

// P6.1: the empty string is one like others: not known at first, with a digest wherever it comes.
func TestEmptyString(t *testing.T) {
	for at := range 4 {
		x, m := full(t, at)
		if x.Known("") {
			t.Fatal("the empty string is known ahead")
		}
		give(t, x, "", at+1, api.OK)
		holds(t, x, append(m, ""))
		give(t, x, "", at+1, api.OK)
		give(t, x, "behind", at+2, api.OK)
		holds(t, x, append(m, "", "behind"))
	}
}

// P6.1: a string's digest is how many are known then, and one that is known keeps its own.
func TestOf(t *testing.T) {
	all := texts()
	x := digest.New()
	for i, s := range all {
		if x.Known(s) {
			t.Fatalf("Known(%.20q) ahead", s)
		}
		give(t, x, s, i+1, api.OK)
		for k, known := range all[:i+1] {
			give(t, x, known, k+1, api.OK)
		}
		holds(t, x, all[:i+1])
		for _, other := range all[i+1:] {
			if x.Known(other) {
				t.Fatalf("Known(%.20q) behind %.20q", other, s)
			}
		}
	}
}

// P6.1: of what is no digest Text tells nothing: below 0, 0, one more than there are, at every number of strings.
func TestTextOfNoDigest(t *testing.T) {
	for n := range 20 {
		x, m := full(t, n)
		for _, d := range noDigests(n) {
			if got, is := x.Text(d); got != "" || is {
				t.Errorf("Text(%d) = %q, %v, of %d strings", d, got, is, n)
			}
		}
		for d := n + 1; d < 2*n+300; d++ {
			if got, is := x.Text(d); got != "" || is {
				t.Errorf("Text(%d) = %q, %v, of %d strings", d, got, is, n)
			}
			if got, is := x.Text(-d); got != "" || is {
				t.Errorf("Text(%d) = %q, %v, of %d strings", -d, got, is, n)
			}
		}
		holds(t, x, m)
	}
}

// P6.1: neither Known nor Text makes a string known, nor do they change which digest comes next.
func TestAskingChangesNothing(t *testing.T) {
	x := digest.New()
	for i, s := range texts() {
		for range 3 {
			if x.Known(s) {
				t.Fatalf("Known(%.20q) is true, and nobody gave it", s)
			}
			for _, d := range noDigests(i) {
				x.Text(d)
			}
		}
		if x.Len() != i {
			t.Fatalf("Len() = %d, want %d", x.Len(), i)
		}
		give(t, x, s, i+1, api.OK)
		x.Text(i + 1)
		x.Known(s)
		if x.Len() != i+1 {
			t.Fatalf("Len() = %d, want %d", x.Len(), i+1)
		}
	}
}

// P6.1: MaxDigests strings are known, and no more; those that are known are told all the same.
func TestFull(t *testing.T) {
	if api.MaxDigests != 65536 {
		t.Fatal(api.MaxDigests)
	}
	x, m := full(t, 65535)
	give(t, x, "the last", 65536, api.OK)
	m = append(m, "the last")
	holds(t, x, m)
	for range 2 {
		for _, s := range texts() {
			give(t, x, s, 0, api.ErrFull)
			if x.Known(s) {
				t.Fatalf("Known(%.20q), which there was no room for", s)
			}
			if x.Len() != 65536 {
				t.Fatalf("Len() = %d", x.Len())
			}
		}
		for i, s := range m {
			give(t, x, s, i+1, api.OK)
		}
		holds(t, x, m)
	}
}

// P6.1: one string less than MaxDigests leaves room for just one, whichever that is.
func TestOneLeft(t *testing.T) {
	x, m := full(t, 65535)
	give(t, x, unlike(0), 1, api.OK)
	give(t, x, unlike(65534), 65535, api.OK)
	give(t, x, "", 65536, api.OK)
	give(t, x, "a", 0, api.ErrFull)
	give(t, x, "", 65536, api.OK)
	holds(t, x, append(m, ""))
}

// P6.1: two tables side by side know nothing of each other; one that is full leaves room in the other.
func TestTablesApart(t *testing.T) {
	x, y := digest.New(), digest.New()
	give(t, x, "a", 1, api.OK)
	holds(t, y, nil)
	if y.Known("a") {
		t.Error("the other table's string is known")
	}
	give(t, y, "b", 1, api.OK)
	give(t, y, "a", 2, api.OK)
	give(t, x, "b", 2, api.OK)
	give(t, x, "c", 3, api.OK)
	holds(t, x, model{"a", "b", "c"})
	holds(t, y, model{"b", "a"})
	f, m := full(t, api.MaxDigests)
	give(t, f, "d", 0, api.ErrFull)
	give(t, y, "d", 3, api.OK)
	holds(t, digest.New(), nil)
	holds(t, f, m)
	holds(t, y, model{"b", "a", "d"})
}

// shares tells whether the bytes of a and b overlap.
func shares(a, b string) bool {
	if a == "" || b == "" {
		return false
	}
	p, q := uintptr(unsafe.Pointer(unsafe.StringData(a))), uintptr(unsafe.Pointer(unsafe.StringData(b)))
	return p < q+uintptr(len(b)) && q < p+uintptr(len(a))
}

// P6.2: what Text answers shares no bytes with what was handed in, nor with another answer.
func TestTextIsNew(t *testing.T) {
	x := digest.New()
	for _, s := range texts() {
		given := strings.Clone(s)
		d, _ := x.Of(given)
		again := strings.Clone(s)
		x.Of(again)
		first, _ := x.Text(d)
		second, _ := x.Text(d)
		if shares(first, given) || shares(first, again) || shares(first, second) || shares(second, given) || shares(second, again) {
			t.Errorf("Text(%d), %.20q, is no new memory", d, s)
		}
	}
}

// P6.2, P6.1: what is handed in is not kept: who changes its bytes afterwards changes neither what is known nor what is told.
func TestNothingHandedInIsKept(t *testing.T) {
	for _, s := range []string{"a", "ab", "abcd", strings.Repeat("x", 600), strings.Repeat("x", 5000)} {
		room := []byte("ahead" + s + "behind")
		given := unsafe.String(&room[5], len(s))
		x := digest.New()
		give(t, x, given, 1, api.OK)
		x.Known(given)
		for i := range room {
			room[i] = '#'
		}
		holds(t, x, model{s})
		if x.Known(given) {
			t.Errorf("%.20q became %.20q", s, given)
		}
		give(t, x, given, 2, api.OK)
		for i := range room {
			room[i] = '%'
		}
		holds(t, x, model{s, strings.Repeat("#", len(s))})
	}
}

// P6.2: who changes the bytes of an answer changes neither what is known nor what is told next.
func TestAnswersAreNotKept(t *testing.T) {
	for _, s := range []string{"a", "ab", strings.Repeat("x", 600)} {
		x := digest.New()
		give(t, x, strings.Clone(s), 1, api.OK)
		told, _ := x.Text(1)
		bytes := unsafe.Slice(unsafe.StringData(told), len(told))
		for i := range bytes {
			bytes[i] = '#'
		}
		holds(t, x, model{s})
		give(t, x, s, 1, api.OK)
	}
}

// P6.3: digests are alike just if the strings are, by each pair of strings and each order in which they come.
func TestAlikeJustIfTheStringsAre(t *testing.T) {
	for _, a := range texts() {
		for _, b := range texts() {
			x := digest.New()
			x.Of("one ahead")
			d, err := x.Of(strings.Clone(a))
			e, other := x.Of(strings.Clone(b))
			if err != api.OK || other != api.OK || (d == e) != (a == b) {
				t.Errorf("%.20q is %d, %v, and %.20q is %d, %v", a, d, err, b, e, other)
			}
		}
	}
}

// P6.3: a digest that was told is told again, whatever comes between: new strings, known ones, questions, too many strings.
func TestToldAgain(t *testing.T) {
	r := rand.New(rand.NewSource(6))
	x, m := full(t, 1000)
	for x.Len() < api.MaxDigests {
		s := unlike(x.Len())
		give(t, x, s, len(m)+1, api.OK)
		m = append(m, s)
		x.Known(unlike(r.Intn(1 << 17)))
		x.Text(r.Intn(1<<18) - 1<<17)
		i := r.Intn(len(m))
		give(t, x, m[i], i+1, api.OK)
	}
	for range 1000 {
		give(t, x, "n"+strconv.Itoa(r.Intn(1<<17)), 0, api.ErrFull)
		i := r.Intn(len(m))
		give(t, x, m[i], i+1, api.OK)
	}
	holds(t, x, m)
}

// run does those steps, two bytes each, to two tables side by side, and holds them against what they must be.
func run(t *testing.T, steps []byte) {
	t.Helper()
	tables := []*digest.Table{digest.New(), digest.New()}
	models := make([]model, 2)
	short := texts()[:20]
	for len(steps) >= 2 {
		do, what := steps[0], steps[1]
		steps = steps[2:]
		x, m := tables[do%2], &models[do%2]
		s := short[int(what)%20]
		if what >= 128 {
			s = strings.Repeat(s, int(what%3)) + strconv.Itoa(int(what)%16)
		}
		switch do / 2 % 4 {
		case 0, 1:
			want, wantErr := m.of(s)
			give(t, x, s, want, wantErr)
		case 2:
			if got := x.Known(s); got != slices.Contains(*m, s) {
				t.Fatalf("Known(%q) = %v", s, got)
			}
		case 3:
			d := int(int8(what))
			got, is := x.Text(d)
			if want := d >= 1 && d <= len(*m); is != want || is && got != (*m)[d-1] || !is && got != "" {
				t.Fatalf("Text(%d) = %q, %v, of %d strings", d, got, is, len(*m))
			}
		}
		holds(t, tables[0], models[0])
		holds(t, tables[1], models[1])
	}
}

// P6.1, P6.3: many steps, at random but always the same, against another way of telling.
func TestManySteps(t *testing.T) {
	r := rand.New(rand.NewSource(60))
	for range 200 {
		steps := make([]byte, 2*r.Intn(60))
		r.Read(steps)
		run(t, steps)
	}
}

// FuzzSteps is the same at any steps.
func FuzzSteps(f *testing.F) {
	f.Add([]byte{0, 1, 0, 2, 0, 1, 1, 2, 1, 0, 6, 1, 6, 0, 6, 255, 4, 3})
	f.Add([]byte{0, 128, 1, 129, 2, 130, 3, 131, 4, 132, 5, 133, 6, 3, 7, 128})
	f.Fuzz(func(t *testing.T, steps []byte) {
		run(t, steps[:min(len(steps), 300)])
	})
}
