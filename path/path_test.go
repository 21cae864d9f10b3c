package path_test

import (
	"regexp"
	"slices"
	"strings"
	"testing"
	"unsafe"

	"carpetbag/api"
	"carpetbag/path"
)

// names are names at the edges of what is one.
func names() []string {
	return []string{
		"a",
		"z",
		"0",
		"9",
		"-",
		"--",
		"...",
		"....",
		".a",
		"a.",
		"..a",
		"a..",
		"-.",
		".-",
		"a.b-9",
		"qwertyuiop",
		"asdfghjklm",
		"zxcvbn",
		"0123456789",
		"abcdefghijkl",
		"............",
		"------------",
		strings.Repeat("z", 11),
		strings.Repeat("z", 12),
	}
}

// noNames are strings that are no names, and no paths either.
func noNames() []string {
	return []string{
		"",
		".",
		"..",
		" ",
		"a b",
		" a",
		"a ",
		"A",
		"Z",
		"aB",
		"a_b",
		"a+b",
		"a,b",
		"a:b",
		"a\\b",
		"a`",
		"{a",
		"a\x00",
		"\x00",
		"a\n",
		"a\x7f",
		"\xff",
		"a\x80",
		"a\xe1",
		"\u00e4",
		"\u0430",
		"\u0661",
		"\uff41",
		"\u212a",
		"\u017f",
		"a\u0301",
		"\u2024",
		"a\u2215b",
		strings.Repeat("z", 13),
		strings.Repeat(".", 13),
		strings.Repeat("a", 268),
		strings.Repeat("a", 1<<16),
		strings.Repeat("a", 1<<16+1),
		"abcdefghijk\u00e4",
	}
}

// strokes are strings that have names, but strokes where none may be, or too many.
func strokes() []string {
	return []string{
		"/",
		"//",
		"///",
		"////",
		"/////",
		"/a",
		"a/",
		"/a/",
		"a//b",
		"/a/b",
		"a/b/",
		"a/b//",
		"//a/b",
		"a///b",
		"a/b/c/d/",
		"/a/b/c/d",
		"a/b/c//d",
		"a/b/c/d/e",
		"a/b/c/d/e/f",
		"a/b/c/d//",
		"a/./b",
		"./a",
		"a/.",
		"../a",
		"a/..",
		"a/../b",
		"a/B",
		"A/b",
		"a/b/c/D",
		"a/b/c/" + strings.Repeat("z", 13),
		strings.Repeat("z", 13) + "/a",
		"a/ b",
		"a\\b/c",
		strings.Repeat("a/", 1<<16),
		strings.Repeat("/", 1<<16),
	}
}

// rows are the names of paths: of 1 to 4 names, short ones and long ones.
func rows() [][]string {
	long := strings.Repeat("y", 12)
	all := [][]string{
		{"a", "b"},
		{"a", "a"},
		{"a", "b", "c"},
		{"a", "b", "c", "d"},
		{"a", "a", "a", "a"},
		{"...", "...", "...", "..."},
		{"-", "..a", "0", "z."},
		{long, long},
		{long, long, long},
		{long, long, long, long},
		{"abc", "de.f", "0-1"},
	}
	for _, n := range names() {
		all = append(all, []string{n}, []string{n, "a"}, []string{"a", n}, []string{"a", "b", n, "d"}, []string{"a", "b", "c", n})
	}
	return all
}

// P3.1: what is a name.
func TestName(t *testing.T) {
	for _, s := range names() {
		if !path.Name(s) {
			t.Errorf("Name(%q) is false", s)
		}
	}
	for _, s := range slices.Concat(noNames(), strokes()) {
		if path.Name(s) {
			t.Errorf("Name(%q) is true", s)
		}
	}
	if path.Name("a/b") {
		t.Error("a path of two names is a name")
	}
}

// P3.1: a name has 1 to MaxName bytes.
func TestLengthOfName(t *testing.T) {
	for n := range 600 {
		want := n >= 1 && n <= 12
		for _, c := range []string{"a", "-", "7"} {
			if path.Name(strings.Repeat(c, n)) != want {
				t.Errorf("Name of %d times %q is not %v", n, c, want)
			}
		}
	}
}

// P3.1: each byte, at each place of a name and of a path.
func TestBytesOfName(t *testing.T) {
	for c := range 256 {
		b := string([]byte{byte(c)})
		want := strings.Contains("abcdefghijklmnopqrstuvwxyz0123456789.-", b)
		for _, s := range []string{b + "xy", "x" + b + "y", "xy" + b, b + b + b, "abcdefghijk" + b, b + "abcdefghijk"} {
			if path.Name(s) != want {
				t.Errorf("Name(%q) is not %v", s, want)
			}
			if path.Right(s+"/v/w/u") != want {
				t.Errorf("Right(%q) is not %v", s+"/v/w/u", want)
			}
			if got := path.Join("v", s); (got != "") != want {
				t.Errorf("Join(v, %q) = %q", s, got)
			}
		}
		if path.Name(b) != (want && b != ".") {
			t.Errorf("Name(%q) is %v", b, path.Name(b))
		}
	}
}

// P3.1: a path is known as one, its names are told in order, and joined they are the path.
func TestPaths(t *testing.T) {
	for _, row := range rows() {
		s := strings.Join(row, "/")
		if !path.Right(s) {
			t.Errorf("Right(%q) is false", s)
		}
		if got := path.Names(s); !slices.Equal(got, row) {
			t.Errorf("Names(%q) = %q", s, got)
		}
		if got := path.Join(row...); got != s {
			t.Errorf("Join(%q) = %q", row, got)
		}
	}
}

// P3.1: what is no path has no names.
func TestNoPaths(t *testing.T) {
	for _, s := range slices.Concat(noNames(), strokes()) {
		if path.Right(s) {
			t.Errorf("Right(%.40q) is true", s)
		}
		if got := path.Names(s); len(got) != 0 {
			t.Errorf("Names(%.40q) = %.40q", s, got)
		}
	}
}

// P3.1: of 0 to many names, a path is of 1 to MaxDepth.
func TestDepth(t *testing.T) {
	for n := range 40 {
		given := slices.Repeat([]string{"ab"}, n)
		s := strings.Join(given, "/")
		joined, names := s, given
		fine := n >= 1 && n <= 4
		if !fine {
			joined, names = "", nil
		}
		if got := path.Join(given...); got != joined {
			t.Errorf("%d names joined: %q", n, got)
		}
		if path.Right(s) != fine || !slices.Equal(path.Names(s), names) {
			t.Errorf("a path of %d names: %v, %q", n, path.Right(s), path.Names(s))
		}
	}
}

// P3.1: where one is no name, or there are too many, or none, nothing is joined.
func TestJoinOfWrong(t *testing.T) {
	wrong := slices.Concat(noNames(), strokes(), []string{"a/b", "a/b/c", "a/b/c/d"})
	for _, s := range wrong {
		for _, row := range [][]string{{s}, {s, "a"}, {"a", s}, {"a", s, "b"}, {"a", "b", "c", s}, {s, "b", "c", "d"}, {s, s}} {
			if got := path.Join(row...); got != "" {
				t.Errorf("Join(%.40q) = %.40q", row, got)
			}
		}
	}
	for _, row := range [][]string{nil, {}, {"a", "b", "c", "d", "e"}, {"a", "b", "c", "d", ""}, {"", "a", "b", "c", "d"}, make([]string, 1<<16), slices.Repeat([]string{"a"}, 1<<16+1)} {
		if got := path.Join(row...); got != "" {
			t.Errorf("Join of %d names = %q", len(row), got)
		}
	}
	if path.Join() != "" {
		t.Error("Join of no argument is not empty")
	}
}

// P3.2: a path's parent has all names but the last; of one name, and of what is no path, it is empty.
func TestParent(t *testing.T) {
	for _, row := range rows() {
		s := strings.Join(row, "/")
		want := strings.Join(row[:len(row)-1], "/")
		if got := path.Parent(s); got != want {
			t.Errorf("Parent(%q) = %q", s, got)
		}
	}
	for _, s := range slices.Concat(noNames(), strokes()) {
		if got := path.Parent(s); got != "" {
			t.Errorf("Parent(%.40q) = %.40q", s, got)
		}
	}
}

// some are paths that lie every way to each other, and strings that are none.
func some() []string {
	return []string{
		"a", "a.", "a.b", "a-", "a-b", "a0", "ab", "b",
		"a/a", "a/b", "a/b.", "a/b.c", "a/bc", "a./b", "a.b/c", "ab/a", "b/a",
		"a/b/a", "a/b/c", "a/b.c/d", "a/a/a", "a-b/c/d",
		"a/b/c/d", "a/a/a/a", "a/b/c/d.", "b/b/c/d",
		"", "/", "/a", "a/", "a//b", "a/b/", "a/b/c/d/", "a/b/c/d/e", "a/.", "a/..", ".", "..", "A", "a/B", "a/b/C", "a b", "a/b/c/ ",
		"\xff", "a/\xff",
	}
}

// under tells by the names, one by one, whether s is under dir.
func under(s, dir string) bool {
	if !right(s) || !right(dir) {
		return false
	}
	long, short := strings.Split(s, "/"), strings.Split(dir, "/")
	return len(short) < len(long) && slices.Equal(long[:len(short)], short)
}

// right tells whether s is a path, by an expression.
func right(s string) bool {
	if !regexp.MustCompile(`^[a-z0-9.-]{1,12}(/[a-z0-9.-]{1,12}){0,3}\z`).MatchString(s) {
		return false
	}
	return !regexp.MustCompile(`(^|/)\.\.?(/|\z)`).MatchString(s)
}

// P3.2: what is under what, and what clashes: as the document shows it, and at its edges.
func TestUnderOfSome(t *testing.T) {
	for _, c := range []struct {
		s, dir string
		want   bool
	}{
		{"a/b/c", "a", true},
		{"a/b/c", "a/b", true},
		{"a/b", "a", true},
		{"a/b/c/d", "a", true},
		{"a/b/c/d", "a/b/c", true},
		{"abcdefghijkl/b", "abcdefghijkl", true},
		{".../...", "...", true},
		{"a", "a", false},
		{"a/b", "a/b", false},
		{"a", "a/b", false},
		{"a.b", "a", false},
		{"ab", "a", false},
		{"a-b/c", "a", false},
		{"a/bc", "a/b", false},
		{"b/a", "a", false},
		{"a/b", "b", false},
		{"a/b/c", "b", false},
		{"a/b/c", "b/c", false},
		{"a", "", false},
		{"/a", "", false},
		{"", "", false},
		{"", "a", false},
		{"a/b", "a/", false},
		{"a/", "a", false},
		{"a//b", "a", false},
		{"a/B", "a", false},
		{"A/b", "A", false},
		{"a/..", "a", false},
		{"../a", "..", false},
		{"./a", ".", false},
		{"a/b/c/d/e", "a", false},
		{"a/b/c/d/e", "a/b/c/d", false},
		{"a/b/c/d/e/f", "a/b/c/d/e", false},
		{"abcdefghijklm/b", "abcdefghijklm", false},
		{"a/b", "a/b/c/d/e", false},
	} {
		if got := path.Under(c.s, c.dir); got != c.want {
			t.Errorf("Under(%q, %q) = %v", c.s, c.dir, got)
		}
		if c.want && (!path.Clash(c.s, c.dir) || !path.Clash(c.dir, c.s)) {
			t.Errorf("%q, %q do not clash", c.s, c.dir)
		}
	}
	if path.Clash("a", "a.b") || path.Clash("a.b", "a") || path.Clash("a", "a") {
		t.Error("what is beside, or the same, clashes")
	}
}

// P3.2: of every two: under goes by whole names, and a clash is one way or the other.
func TestUnderAndClash(t *testing.T) {
	for _, a := range some() {
		for _, b := range some() {
			if path.Under(a, b) != under(a, b) {
				t.Errorf("Under(%q, %q) = %v", a, b, path.Under(a, b))
			}
			if path.Clash(a, b) != (under(a, b) || under(b, a)) {
				t.Errorf("Clash(%q, %q) = %v", a, b, path.Clash(a, b))
			}
		}
	}
}

// P3.2: dir is the Parent, or that one's Parent, and so on.
func TestUnderByParents(t *testing.T) {
	for _, s := range some() {
		var above []string
		for p := path.Parent(s); p != ""; p = path.Parent(p) {
			above = append(above, p)
		}
		for _, dir := range some() {
			if path.Under(s, dir) != slices.Contains(above, dir) {
				t.Errorf("Under(%q, %q), but the parents are %q", s, dir, above)
			}
		}
	}
}

// P3.2: a list is sorted if all are paths, and each is greater than the one ahead, by bytes.
func TestSorted(t *testing.T) {
	for _, c := range []struct {
		l    []string
		want bool
	}{
		{nil, true},
		{[]string{}, true},
		{[]string{"a"}, true},
		{[]string{"a", "b"}, true},
		{[]string{"-", ".a", "0", "a"}, true},
		{[]string{"a", "a-", "a.", "a/a", "a0", "aa", "b"}, true},
		{[]string{"a", "a.b", "a/b"}, true},
		{[]string{"a-b/c", "a.b", "a/b/c/d"}, true},
		{[]string{"a/b", "a.b"}, false},
		{[]string{"a", "a"}, false},
		{[]string{"b", "a"}, false},
		{[]string{"a", "b", "b"}, false},
		{[]string{"a", "c", "b"}, false},
		{[]string{"b", "a", "c"}, false},
		{[]string{"a", "b", "a"}, false},
		{[]string{"aa", "a"}, false},
		{[]string{"10", "9"}, true},
		{[]string{"9", "10"}, false},
		{[]string{""}, false},
		{[]string{"", "a"}, false},
		{[]string{"a", ""}, false},
		{[]string{"A"}, false},
		{[]string{"A", "a"}, false},
		{[]string{"a", "b/"}, false},
		{[]string{"/a", "b"}, false},
		{[]string{"a", "b//c", "d"}, false},
		{[]string{"a", "a/b/c/d/e", "b"}, false},
		{[]string{"a", "b", "c", "d\xff"}, false},
		{[]string{".", "a"}, false},
	} {
		if got := path.Sorted(c.l); got != c.want {
			t.Errorf("Sorted(%q) = %v", c.l, got)
		}
	}
}

// P3.2: a list of any length is held to it, at each place.
func TestSortedAtEachPlace(t *testing.T) {
	var l []string
	for c := 'a'; c <= 'z'; c++ {
		l = append(l, string(c), string(c)+"/x")
	}
	if !path.Sorted(l) {
		t.Error("a sorted list is not")
	}
	for i := range l {
		bad := slices.Clone(l)
		bad[i] += "/"
		if path.Sorted(bad) {
			t.Errorf("%q is taken for a path", bad[i])
		}
		if i > 0 {
			bad = slices.Clone(l)
			bad[i] = bad[i-1]
			if path.Sorted(bad) {
				t.Errorf("%q twice is taken", bad[i])
			}
		}
	}
}

// shares tells whether two strings have bytes in the same place.
func shares(a, b string) bool {
	if a == "" || b == "" {
		return false
	}
	p, q := uintptr(unsafe.Pointer(unsafe.StringData(a))), uintptr(unsafe.Pointer(unsafe.StringData(b)))
	return p < q+uintptr(len(b)) && q < p+uintptr(len(a))
}

// P3.3: what is answered shares no memory with what was handed in.
func TestAnswersAreNew(t *testing.T) {
	for _, row := range rows() {
		s := strings.Join(row, "/")
		for _, n := range path.Names(s) {
			if shares(n, s) {
				t.Errorf("the name %q shares memory with %q", n, s)
			}
		}
		for _, n := range row {
			if shares(path.Join(row...), n) {
				t.Errorf("%q joined shares memory with %q", row, n)
			}
		}
		if shares(path.Parent(s), s) {
			t.Errorf("the parent of %q shares memory with it", s)
		}
	}
}

// P3.3: who changes an answer, or its spare room, changes no other one.
func TestAnswersApart(t *testing.T) {
	for _, s := range []string{"a", "a/b", "a/b/c", "a/b/c/d"} {
		l, m := path.Names(s), path.Names(s)
		for i := range l[:cap(l)] {
			l[:cap(l)][i] = "x"
		}
		if path.Join(m...) != s || !slices.Equal(path.Names(s), m) {
			t.Errorf("the names of %q changed with another answer", s)
		}
	}
}

// W6: what is handed in stays as it is, its spare room too.
func TestArgumentsStay(t *testing.T) {
	for _, row := range rows() {
		room := append(slices.Clone(row), "spare", "A", "")
		want := slices.Clone(room)
		path.Join(room[:len(row)]...)
		path.Sorted(room[:len(row)])
		if !slices.Equal(room, want) {
			t.Errorf("%q became %q", want, room)
		}
	}
	wrong := []string{"b", "a", "A", ""}
	path.Join(wrong[:3]...)
	path.Sorted(wrong[:3])
	if !slices.Equal(wrong, []string{"b", "a", "A", ""}) {
		t.Errorf("a wrong list became %q", wrong)
	}
}

// P3.4: what is joined is told by Names, and Names, joined, are the path.
func TestToAndFro(t *testing.T) {
	parts := slices.Concat(names()[:8], noNames()[:14], []string{"a/b", "/", "a/"})
	for _, a := range parts {
		for _, b := range parts {
			for _, row := range [][]string{{a}, {a, b}, {b, a, b}, {a, a, b, b}, {a, b, a, b, a}} {
				if s := path.Join(row...); s != "" && !slices.Equal(path.Names(s), row) {
					t.Errorf("%q joined is %q, of the names %q", row, s, path.Names(s))
				}
			}
		}
	}
	for _, s := range some() {
		want := ""
		if right(s) {
			want = s
		}
		if got := path.Join(path.Names(s)...); got != want {
			t.Errorf("the names of %q joined are %q", s, got)
		}
	}
}

// P3.4: to be Under is an order, without what is the same.
func TestUnderIsAnOrder(t *testing.T) {
	for _, a := range some() {
		if path.Under(a, a) || path.Clash(a, a) {
			t.Errorf("%q is under itself", a)
		}
		for _, b := range some() {
			if path.Under(a, b) && path.Under(b, a) {
				t.Errorf("%q and %q are under each other", a, b)
			}
			for _, c := range some() {
				if path.Under(a, b) && path.Under(b, c) && !path.Under(a, c) {
					t.Errorf("%q under %q under %q, but not the first under the last", a, b, c)
				}
			}
		}
	}
}

// FuzzPaths holds the promises against the expressions, at any strings.
func FuzzPaths(f *testing.F) {
	for _, s := range some() {
		f.Add(s, "a/b")
	}
	f.Fuzz(func(t *testing.T, a, b string) {
		if path.Right(a) != right(a) || path.Name(a) != (right(a) && !strings.Contains(a, "/")) {
			t.Errorf("%q: Right %v, Name %v", a, path.Right(a), path.Name(a))
		}
		if path.Under(a, b) != under(a, b) || path.Clash(a, b) != (under(a, b) || under(b, a)) {
			t.Errorf("%q, %q: Under %v, Clash %v", a, b, path.Under(a, b), path.Clash(a, b))
		}
		if path.Right(a) && path.Join(path.Names(a)...) != a || len(path.Names(a)) > api.MaxDepth {
			t.Errorf("Names(%q) = %q", a, path.Names(a))
		}
		if path.Sorted([]string{a, b}) != (right(a) && right(b) && a < b) {
			t.Errorf("Sorted(%q, %q) = %v", a, b, path.Sorted([]string{a, b}))
		}
		if s := path.Join(a, b); s != "" && !slices.Equal(path.Names(s), []string{a, b}) {
			t.Errorf("Join(%q, %q) = %q", a, b, s)
		}
	})
}
