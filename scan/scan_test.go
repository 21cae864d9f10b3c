package scan_test

import (
	"fmt"
	"maps"
	"math/rand"
	"regexp"
	"slices"
	"strings"
	"testing"
	"unsafe"

	"carpetbag/api"
	"carpetbag/scan"
	"carpetbag/tree"
)

// most is the greatest count.
const most = 1 << 30

// has is an entry with a file.
func has(path, data string, left, right int) api.Entry {
	return api.Entry{Path: path, Has: true, Data: data, Clock: api.Pair{Left: left, Right: right}}
}

// gone is an entry without one.
func gone(path string, left, right int) api.Entry {
	return api.Entry{Path: path, Clock: api.Pair{Left: left, Right: right}}
}

// list is the archive of those entries.
func list(l ...api.Entry) []api.Entry { return l }

// of is the files of those paths and data, in turn.
func of(l ...string) []api.File {
	var t []api.File
	for i := 0; i < len(l); i += 2 {
		t = append(t, api.File{Path: l[i], Data: l[i+1]})
	}
	return t
}

// bytes is a string of n bytes.
func bytes(n int) string { return strings.Repeat("x", n) }

// at is the i-th of many rising paths, none of which is Under another one.
func at(i int) string { return fmt.Sprintf("d/%c/%c", 'a'+i/8, 'a'+i%8) }

// many is n entries with rising paths; each second one, from the first on, has a file, as many as may be.
func many(n int) []api.Entry {
	var l []api.Entry
	for i := range n {
		e := gone(at(i), i+1, i%3)
		if i%2 == 0 && i/2 < 16 {
			e.Has, e.Data = true, strings.Repeat("y", i)
		}
		l = append(l, e)
	}
	return l
}

// none is n entries with rising paths, without a file.
func none(n int) []api.Entry {
	var l []api.Entry
	for i := range n {
		l = append(l, gone(at(i), 1, 0))
	}
	return l
}

// rows is files of those many paths, from one on.
func rows(from, n int) []api.File {
	var t []api.File
	for i := range n {
		t = append(t, api.File{Path: at(from + i), Data: "new"})
	}
	return t
}

// some are paths that lie every way to each other.
func some() []string {
	return []string{"a", "a-", "a.b", "a/b", "a/b.c", "a/b/c", "a/b/c/d", "ab", "b", "b/a"}
}

// noPaths are strings that are none.
func noPaths() []string {
	return []string{
		"", ".", "..", "/", "A", "a b", "a_b", "/a", "a/", "a//b", "a/.", "../a", "a/B", "a/b/c/d/", "a/b/c/d/e", "a\x00", "\xff", "\u00e4",
		"abcdefghijklm", "a/abcdefghijklm", bytes(1 << 16), strings.Repeat("a/", 1<<12),
	}
}

// noClocks are pairs that no entry has.
func noClocks() []api.Pair {
	return []api.Pair{
		{}, {Left: -1}, {Right: -1}, {Left: -1, Right: 1}, {Left: 1, Right: -1}, {Left: most + 1}, {Right: most + 1}, {Left: 1, Right: most + 1}, {Left: most + 1, Right: 1},
		{Left: api.MinInt}, {Right: api.MinInt}, {Left: api.MaxInt}, {Right: api.MaxInt}, {Left: api.MaxInt, Right: api.MinInt}, {Left: 1 << 32}, {Right: 1 << 32}, {Left: 1<<32 + 1, Right: 1},
	}
}

// clocks are pairs that an entry may have.
func clocks() []api.Pair {
	return []api.Pair{
		{Left: 1}, {Right: 1}, {Left: 1, Right: 1}, {Left: 7, Right: 3}, {Left: most}, {Right: most}, {Left: most, Right: 1}, {Left: 1, Right: most}, {Left: most - 1, Right: most}, {Left: most, Right: most - 1}, {Left: most, Right: most},
	}
}

// wrong are archives that are not right.
func wrong() [][]api.Entry {
	all := [][]api.Entry{
		list(gone("b", 1, 0), gone("a", 1, 0)),
		list(has("b", "1", 1, 0), has("a", "2", 1, 0)),
		list(has("b", "1", 1, 0), gone("a", 1, 0)),
		list(gone("a", 1, 0), gone("a", 1, 0)),
		list(has("a", "1", 1, 0), has("a", "1", 1, 0)),
		list(gone("a", 1, 0), has("a", "1", 2, 0)),
		list(has("a", "1", 2, 0), gone("a", 1, 0)),
		list(gone("a", 1, 0), gone("c", 1, 0), gone("b", 1, 0)),
		list(gone("b", 1, 0), gone("a", 1, 0), gone("c", 1, 0)),
		list(has("a", "1", 1, 0), has("a/b", "2", 1, 0)),
		list(has("a", "1", 1, 0), has("a.b", "2", 1, 0), has("a/b", "3", 1, 0)),
		list(has("a", "1", 1, 0), gone("a.b", 1, 0), has("a/b", "3", 1, 0)),
		list(has("a", "1", 1, 0), gone("a/b", 1, 0), has("a/b/c", "3", 1, 0)),
		list(has("a", "", 1, 0), has("a/b/c/d", "", 0, 1)),
		list(gone("-", 1, 0), has("a/b", "1", 1, 0), has("a/b/c", "2", 1, 0), gone("z", 1, 0)),
		list(api.Entry{Path: "a", Data: "x", Clock: api.Pair{Left: 1}}),
		list(api.Entry{Path: "a", Data: "\x00", Clock: api.Pair{Right: 1}}),
		list(api.Entry{Path: "a", Data: bytes(601), Clock: api.Pair{Right: 1}}),
		list(has("a", "1", 1, 0), api.Entry{Path: "b", Data: "1", Clock: api.Pair{Left: 1}}),
		list(has("a", bytes(601), 1, 0)),
		list(has("a", bytes(1<<16), 1, 0)),
		list(gone("a", 1, 0), has("b", bytes(601), 1, 0), has("c", "", 1, 0)),
		many(33),
		many(34),
		none(33),
		none(200),
		make([]api.Entry, 1),
		make([]api.Entry, 32),
		make([]api.Entry, 1<<16),
		slices.Repeat(list(gone("a", 1, 0)), 1<<16),
		withFiles(32, 17),
		withFiles(17, 17),
		withFiles(32, 32),
	}
	for _, s := range noPaths() {
		all = append(all, list(gone(s, 1, 0)), list(has(s, "1", 1, 0)), list(gone("-", 1, 0), gone(s, 1, 0)), list(has(s, "", 1, 0), has("z", "", 1, 0)), list(gone("-", 1, 0), has(s, "", 1, 0), gone("z", 1, 0)))
	}
	for _, p := range noClocks() {
		all = append(all, list(api.Entry{Path: "a", Clock: p}), list(api.Entry{Path: "a", Has: true, Data: "1", Clock: p}), list(has("-", "", 1, 0), api.Entry{Path: "a", Clock: p}, gone("z", 1, 0)))
	}
	return all
}

// rights are archives that are.
func rights() [][]api.Entry {
	all := [][]api.Entry{
		nil,
		{},
		list(gone("a", 1, 0)),
		list(gone("a", 0, 1)),
		list(has("a", "", 1, 0)),
		list(has("a", "1", 1, 0)),
		list(has("a", bytes(599), 1, 0), has("b", bytes(600), 1, 0)),
		list(has("a", "\x00\xff\n", 1, 0)),
		list(has("a/b/c/d", "1", 2, 3)),
		list(gone("a", 1, 0), has("a/b", "1", 1, 0)),
		list(has("a", "1", 1, 0), gone("a/b", 1, 0)),
		list(gone("a", 1, 0), gone("a/b", 1, 0), has("a/b/c", "1", 1, 0), gone("a/b/c/d", 1, 0)),
		list(has("a", "1", 1, 0), gone("a.b", 1, 0), gone("a/b", 1, 0), gone("a/b/c", 0, 1)),
		list(has("a", "1", 1, 0), has("a.b", "2", 1, 0)),
		list(gone("a", 1, 0), has("b", "", 1, 0), gone("c", 0, 2), has("d", "4", 1, 1), gone("e", 1, 0)),
		list(gone("10", 1, 0), gone("9", 1, 0)),
		many(1), many(2), many(31), many(32),
		none(1), none(31), none(32),
		withFiles(32, 16), withFiles(16, 16), withFiles(32, 15),
	}
	for _, p := range clocks() {
		all = append(all, list(api.Entry{Path: "a", Clock: p}), list(api.Entry{Path: "a", Has: true, Data: "1", Clock: p}))
	}
	return all
}

// withFiles is n entries, the last k of which have a file.
func withFiles(n, k int) []api.Entry {
	l := none(n)
	for i := n - k; i < n; i++ {
		l[i].Has = true
	}
	return l
}

var name = regexp.MustCompile(`^[a-z0-9.-]{1,12}$`)

// isPath tells by another way what a path is.
func isPath(s string) bool {
	names := strings.Split(s, "/")
	for _, n := range names {
		if !name.MatchString(n) || n == "." || n == ".." {
			return false
		}
	}
	return len(names) <= 4
}

// isTree tells by another way what a right tree is.
func isTree(t []api.File) bool {
	for i, f := range t {
		if !isPath(f.Path) || len(f.Data) > 600 {
			return false
		}
		for _, g := range t[:i] {
			if f.Path <= g.Path || strings.HasPrefix(f.Path, g.Path+"/") {
				return false
			}
		}
	}
	return len(t) <= 16
}

// isArchive tells by another way what a right archive is.
func isArchive(l []api.Entry) bool {
	var t []api.File
	for i, e := range l {
		c := e.Clock
		if !isPath(e.Path) || i > 0 && e.Path <= l[i-1].Path || c.Left < 0 || c.Right < 0 || c.Left > most || c.Right > most || c.Left+c.Right == 0 {
			return false
		}
		if e.Has {
			t = append(t, api.File{Path: e.Path, Data: e.Data})
		} else if e.Data != "" {
			return false
		}
	}
	return len(l) <= 32 && isTree(t)
}

// told is what Scan answers.
type told struct {
	l       []api.Entry
	changed []string
	err     api.Errno
}

func scanned(l []api.Entry, t []api.File, author int) told {
	m, c, e := scan.Scan(l, t, author)
	return told{m, c, e}
}

// String lets a message be cut, however much is told.
func (a told) String() string { return fmt.Sprint(a.l, a.changed, a.err) }

func (a told) same(b told) bool {
	return slices.Equal(a.l, b.l) && slices.Equal(a.changed, b.changed) && a.err == b.err
}

// must tells by another way what Scan answers: by maps, path by path.
func must(l []api.Entry, t []api.File, author int) told {
	if !isArchive(l) || !isTree(t) {
		return told{err: api.ErrArg}
	}
	known, files, all := map[string]api.Entry{}, map[string]string{}, map[string]int{}
	for _, e := range l {
		known[e.Path], all[e.Path] = e, 1
	}
	for _, f := range t {
		files[f.Path], all[f.Path] = f.Data, 1
	}
	var r told
	for _, p := range slices.Sorted(maps.Keys(all)) {
		e, data, there := known[p], "", false
		data, there = files[p]
		if e.Has != there || there && e.Data != data {
			mine := &e.Clock.Left
			if author&1 == 1 {
				mine = &e.Clock.Right
			}
			if *mine == most {
				return told{err: api.ErrFull}
			}
			*mine++
			e.Path, e.Has, e.Data = p, there, data
			r.changed = append(r.changed, p)
		}
		r.l = append(r.l, e)
	}
	if len(r.l) > 32 {
		return told{err: api.ErrFull}
	}
	return r
}

// scans tells where Scan answers otherwise than it must.
func scans(t *testing.T, l []api.Entry, files []api.File, author int, want told) {
	t.Helper()
	if got := scanned(l, files, author); !got.same(want) {
		t.Fatalf("Scan of %.300v and %.300v by %d: %.300v, want %.300v", l, files, author, got, want)
	}
}

// authors are all kinds of numbers: those of author 0, then those of author 1.
func authors() ([]int, []int) {
	return []int{0, 2, -2, 4, 1 << 40, api.MinInt, api.MaxInt - 1}, []int{1, 3, -1, -3, 1<<40 + 1, api.MinInt + 1, api.MaxInt}
}

// The limits are what the document says.
func TestLimits(t *testing.T) {
	if api.MaxEntries != 32 || api.MaxFiles != 16 || api.MaxData != 600 || api.MaxCount != most {
		t.Error(api.MaxEntries, api.MaxFiles, api.MaxData, api.MaxCount)
	}
}

// P9.1: what is a right archive, and what is none.
func TestRight(t *testing.T) {
	for i, l := range rights() {
		if !scan.Right(l) || !isArchive(l) {
			t.Errorf("right archive %d is not: %.200v", i, l)
		}
	}
	for i, l := range wrong() {
		if scan.Right(l) || isArchive(l) {
			t.Errorf("wrong archive %d is right: %.200v", i, l[:min(len(l), 40)])
		}
	}
}

// P9.1: 0 to MaxEntries entries, and no more, with files and without.
func TestRightByEntries(t *testing.T) {
	for n := range 70 {
		if got := scan.Right(none(n)); got != (n <= 32) {
			t.Errorf("Right of %d entries without a file is %v", n, got)
		}
		if got := scan.Right(many(n)); got != (n <= 32) {
			t.Errorf("Right of %d entries is %v", n, got)
		}
		for files := range min(n, 40) {
			if got := scan.Right(withFiles(n, files)); got != (n <= 32 && files <= 16) {
				t.Errorf("Right of %d entries, %d of which have files, is %v", n, files, got)
			}
		}
	}
}

// P9.1: of every three paths, each with a file or without: what has no file is in nobody's way.
func TestRightOfThree(t *testing.T) {
	for _, a := range some() {
		for _, b := range some() {
			for _, c := range some() {
				for files := range 8 {
					l := list(gone(a, 1, 0), gone(b, 0, 1), gone(c, 1, 1))
					for i := range l {
						l[i].Has = files>>i&1 == 1
					}
					if got := scan.Right(l); got != isArchive(l) {
						t.Fatalf("Right of %v is %v", l, got)
					}
				}
			}
		}
	}
}

// P9.1: one wrong entry, at each place of a full archive, makes it wrong.
func TestRightAtEachPlace(t *testing.T) {
	l := many(32)
	for i, e := range l {
		ask := func(what string, want bool, other api.Entry) {
			t.Helper()
			m := slices.Clone(l)
			m[i] = other
			if got := scan.Right(m); got != want {
				t.Errorf("%s at %d: Right is %v", what, i, got)
			}
		}
		for _, p := range noClocks() {
			ask(fmt.Sprint("the Clock ", p), false, api.Entry{Path: e.Path, Has: e.Has, Data: e.Data, Clock: p})
		}
		for _, p := range clocks() {
			ask(fmt.Sprint("the Clock ", p), true, api.Entry{Path: e.Path, Has: e.Has, Data: e.Data, Clock: p})
		}
		ask("data without a file", false, api.Entry{Path: e.Path, Data: "1", Clock: e.Clock})
		ask("no file", true, api.Entry{Path: e.Path, Clock: e.Clock})
		ask("a file", e.Has, api.Entry{Path: e.Path, Has: true, Clock: e.Clock})
		ask("MaxData bytes", e.Has, api.Entry{Path: e.Path, Has: true, Data: bytes(600), Clock: e.Clock})
		ask("one more", false, api.Entry{Path: e.Path, Has: true, Data: bytes(601), Clock: e.Clock})
		ask("no path", false, api.Entry{Path: e.Path + "/", Has: e.Has, Data: e.Data, Clock: e.Clock})
		ask("no path, and no file", false, api.Entry{Path: e.Path + "/", Clock: e.Clock})
		ask("a path that stands elsewhere", false, api.Entry{Path: l[(i+1)%32].Path, Clock: e.Clock})
		ask("a path that does not rise", false, api.Entry{Path: l[(i+5)%32].Path + "x", Clock: e.Clock})
	}
}

// P9.1: the place of each entry, with a file or without, and -1 where there is none.
func TestFind(t *testing.T) {
	ask := slices.Concat(some(), noPaths(), []string{"d", "d/a", "d/a/a/a", "-", "z", "d/b/aa", "d/b/a.", "d/z/z", at(0), at(31), at(32)})
	for _, l := range rights() {
		for i, e := range l {
			if got := scan.Find(l, e.Path); got != i {
				t.Errorf("Find(%.200v, %q) = %d", l, e.Path, got)
			}
		}
		for _, s := range ask {
			want := -1
			for i, e := range l {
				if e.Path == s {
					want = i
				}
			}
			if got := scan.Find(l, s); got != want {
				t.Errorf("Find(%.200v, %.40q) = %d, want %d", l, s, got, want)
			}
		}
	}
}

// P9.1: the files of those that have one, in order.
func TestTree(t *testing.T) {
	for _, c := range []struct {
		l    []api.Entry
		want []api.File
	}{
		{nil, nil},
		{list(), nil},
		{list(gone("a", 1, 0)), nil},
		{none(32), nil},
		{list(has("a", "", 1, 0)), of("a", "")},
		{list(has("a", "1", 1, 0), has("b", "2", 0, 1)), of("a", "1", "b", "2")},
		{list(gone("a", 1, 0), has("b", "2", 1, 0)), of("b", "2")},
		{list(has("a", "1", 1, 0), gone("b", 1, 0)), of("a", "1")},
		{list(gone("a", 1, 0), has("b", "2", 1, 0), gone("c", 1, 0), has("d", "", most, most), gone("e", 1, 0)), of("b", "2", "d", "")},
		{list(gone("a", 1, 0), has("a/b", bytes(600), 1, 0), gone("a/b/c", 1, 0)), of("a/b", bytes(600))},
	} {
		if got := scan.Tree(c.l); !slices.Equal(got, c.want) {
			t.Errorf("Tree(%.200v) = %.200v", c.l, got)
		}
	}
	for _, l := range rights() {
		var want []api.File
		for _, e := range l {
			if e.Has {
				want = append(want, api.File{Path: e.Path, Data: e.Data})
			}
		}
		if got := scan.Tree(l); !slices.Equal(got, want) || !tree.Right(got) {
			t.Errorf("Tree(%.200v) = %.200v", l, got)
		}
	}
}

// The words: of what is no right archive Find tells -1, Tree none, Scan none and ErrArg, whatever else is handed in.
func TestWrongArchives(t *testing.T) {
	for i, l := range wrong() {
		ask := []string{"a", "b", "-", "z", "a/b", "", "A", at(0), at(32)}
		for _, e := range l[:min(len(l), 34)] {
			ask = append(ask, e.Path)
		}
		for _, s := range ask {
			if got := scan.Find(l, s); got != -1 {
				t.Errorf("Find of %.40q in wrong archive %d: %d", s, i, got)
			}
		}
		if got := scan.Tree(l); len(got) != 0 {
			t.Errorf("Tree of wrong archive %d has %d files", i, len(got))
		}
		for _, files := range [][]api.File{nil, of("a", "1"), of("zz", ""), rows(33, 16), of("b", "", "a", "")} {
			for author := range 2 {
				if got := scanned(l, files, author); !got.same(told{err: api.ErrArg}) {
					t.Errorf("Scan of wrong archive %d: %.200v", i, got)
				}
			}
		}
	}
}

// P9.1: all parts are alike, or not: of right archives, and of others.
func TestSame(t *testing.T) {
	for i, x := range slices.Concat(rights(), wrong()) {
		x = x[:min(len(x), 40)]
		if !scan.Same(x, slices.Clone(x)) {
			t.Errorf("archive %d is not as itself", i)
		}
		for k, e := range x {
			for _, other := range []api.Entry{
				{Path: e.Path + "x", Has: e.Has, Data: e.Data, Clock: e.Clock},
				{Path: e.Path, Has: !e.Has, Data: e.Data, Clock: e.Clock},
				{Path: e.Path, Has: e.Has, Data: e.Data + "x", Clock: e.Clock},
				{Path: e.Path, Has: e.Has, Data: e.Data, Clock: api.Pair{Left: e.Clock.Left ^ 1, Right: e.Clock.Right}},
				{Path: e.Path, Has: e.Has, Data: e.Data, Clock: api.Pair{Left: e.Clock.Left, Right: e.Clock.Right ^ 1}},
				{Path: e.Path, Has: e.Has, Data: e.Data, Clock: api.Pair{Left: e.Clock.Right, Right: e.Clock.Left}},
			} {
				y := slices.Clone(x)
				y[k] = other
				if want := other == e; scan.Same(x, y) != want || scan.Same(y, x) != want {
					t.Errorf("archive %d, and one with %.100v at %d: not %v", i, other, k, want)
				}
			}
			if scan.Same(x, x[:k]) || scan.Same(x[:k], x) {
				t.Errorf("archive %d is as its first %d entries", i, k)
			}
		}
	}
	if scan.Same(list(gone("a", 1, 0), gone("b", 1, 0)), list(gone("b", 1, 0), gone("a", 1, 0))) {
		t.Error("entries in another order are the same")
	}
	if !scan.Same(nil, list()) || !scan.Same(list(), nil) || !scan.Same(nil, nil) {
		t.Error("no entries are not as no entries")
	}
}

// P9.1: the same entries again, of right archives, and of others.
func TestCopy(t *testing.T) {
	for i, l := range slices.Concat(rights(), wrong()) {
		if got := scan.Copy(l); !slices.Equal(got, l) {
			t.Errorf("Copy of archive %d is another one, of %d entries", i, len(got))
		}
	}
}

// P9.2: what changed, written out.
func TestScan(t *testing.T) {
	a, b := list(has("a", "1", 1, 0)), list(gone("a", 2, 0))
	for _, c := range []struct {
		l       []api.Entry
		files   []api.File
		author  int
		want    []api.Entry
		changed []string
	}{
		{nil, nil, 0, nil, nil},
		{list(), []api.File{}, 1, nil, nil},
		{nil, of("a", "1"), 0, a, []string{"a"}},
		{nil, of("a", "1"), 1, list(has("a", "1", 0, 1)), []string{"a"}},
		{nil, of("a", ""), 0, list(has("a", "", 1, 0)), []string{"a"}},
		{nil, of("a", bytes(600), "b", "2"), 1, list(has("a", bytes(600), 0, 1), has("b", "2", 0, 1)), []string{"a", "b"}},
		{a, nil, 0, b, []string{"a"}},
		{a, nil, 1, list(gone("a", 1, 1)), []string{"a"}},
		{a, of("a", "1"), 0, a, nil},
		{a, of("a", "1"), 1, a, nil},
		{a, of("a", "2"), 0, list(has("a", "2", 2, 0)), []string{"a"}},
		{a, of("a", "2"), 1, list(has("a", "2", 1, 1)), []string{"a"}},
		{a, of("a", ""), 0, list(has("a", "", 2, 0)), []string{"a"}},
		{list(has("a", "", 1, 0)), of("a", "1"), 0, list(has("a", "1", 2, 0)), []string{"a"}},
		{list(has("a", "", 1, 0)), of("a", ""), 0, list(has("a", "", 1, 0)), nil},
		{list(has("a", "", 1, 0)), nil, 0, b, []string{"a"}},
		{b, nil, 0, b, nil},
		{b, nil, 1, b, nil},
		{b, of("a", ""), 0, list(has("a", "", 3, 0)), []string{"a"}},
		{b, of("a", "1"), 1, list(has("a", "1", 2, 1)), []string{"a"}},
		{b, of("-", "x", "b", "y"), 0, list(has("-", "x", 1, 0), gone("a", 2, 0), has("b", "y", 1, 0)), []string{"-", "b"}},
		{list(gone("b", 0, 5)), of("a", "x"), 0, list(has("a", "x", 1, 0), gone("b", 0, 5)), []string{"a"}},
		{list(gone("b", 0, 5)), of("c", "x"), 0, list(gone("b", 0, 5), has("c", "x", 1, 0)), []string{"c"}},
		// A file becomes a directory, and a directory a file.
		{a, of("a/b", "1"), 0, list(gone("a", 2, 0), has("a/b", "1", 1, 0)), []string{"a", "a/b"}},
		{list(has("a/b", "1", 1, 0), has("a/c", "2", 1, 0)), of("a", "1"), 1, list(has("a", "1", 0, 1), gone("a/b", 1, 1), gone("a/c", 1, 1)), []string{"a", "a/b", "a/c"}},
		{list(has("a", "1", 1, 0), gone("a/b", 3, 0)), of("a.b", "", "a/b", "9"), 0, list(gone("a", 2, 0), has("a.b", "", 1, 0), has("a/b", "9", 4, 0)), []string{"a", "a.b", "a/b"}},
		// One that is as it was, one with other bytes, one that is gone, one that stays gone, one that came back, and one that is new.
		{
			list(has("a", "1", 4, 2), has("b", "1", 4, 2), has("c", "1", 4, 2), gone("d", 4, 2), gone("e", 4, 2)),
			of("a", "1", "b", "2", "e", "1", "f", "1"), 1,
			list(has("a", "1", 4, 2), has("b", "2", 4, 3), gone("c", 4, 3), gone("d", 4, 2), has("e", "1", 4, 3), has("f", "1", 0, 1)),
			[]string{"b", "c", "e", "f"},
		},
	} {
		want := told{c.want, c.changed, api.OK}
		scans(t, c.l, c.files, c.author, want)
		if !must(c.l, c.files, c.author).same(want) {
			t.Errorf("the other way tells otherwise of %v and %v", c.l, c.files)
		}
	}
}

// each goes over all that three paths may be: of the archive nothing, no file, or one of three files; of the tree nothing, or one of three files.
func each(paths []string, yield func(l []api.Entry, t []api.File)) {
	data := []string{"", "1", "2"}
	for known := range 125 {
		for files := range 64 {
			var l []api.Entry
			var t []api.File
			k, f := known, files
			for i, p := range paths {
				switch n := k % 5; {
				case n == 1:
					l = append(l, gone(p, i+1, 2))
				case n > 1:
					l = append(l, has(p, data[n-2], i, 3))
				}
				if n := f % 4; n > 0 {
					t = append(t, api.File{Path: p, Data: data[n-1]})
				}
				k, f = k/5, f/4
			}
			yield(l, t)
		}
	}
}

// P9.2: all archives and trees of three paths, of paths that Clash too: against the other way.
func TestScanOfThree(t *testing.T) {
	ended := map[api.Errno]int{}
	for _, paths := range [][]string{{"a", "b", "c"}, {"a", "a.b", "a/b"}, {"a", "a/b", "a/b/c"}, {"a-", "a/b", "b"}} {
		each(paths, func(l []api.Entry, files []api.File) {
			for author := range 2 {
				want := must(l, files, author)
				scans(t, l, files, author, want)
				ended[want.err]++
			}
		})
	}
	if ended[api.OK] < 9999 || ended[api.ErrArg] < 9999 {
		t.Error("too few of a kind:", ended)
	}
}

// P9.2: even authors are author 0, odd ones author 1, as far as numbers go.
func TestScanByAuthors(t *testing.T) {
	l := list(has("a", "1", 5, 9), has("b", "1", 5, 9), gone("c", 5, 9), gone("d", 5, 9))
	files := of("a", "2", "c", "3", "e", "4")
	changed := []string{"a", "b", "c", "e"}
	even, odd := authors()
	for _, author := range even {
		scans(t, l, files, author, told{list(has("a", "2", 6, 9), gone("b", 6, 9), has("c", "3", 6, 9), gone("d", 5, 9), has("e", "4", 1, 0)), changed, api.OK})
	}
	for _, author := range odd {
		scans(t, l, files, author, told{list(has("a", "2", 5, 10), gone("b", 5, 10), has("c", "3", 5, 10), gone("d", 5, 9), has("e", "4", 0, 1)), changed, api.OK})
	}
}

// P9.2: at MaxCount of author, what changed is ErrFull, what did not change is fine; the other author's count may stand there.
func TestScanAtMaxCount(t *testing.T) {
	even, odd := authors()
	for author, kinds := range [][]int{even, odd} {
		for _, number := range kinds {
			for _, p := range clocks() {
				mine, ticked := p.Left, api.Pair{Left: p.Left + 1, Right: p.Right}
				if author == 1 {
					mine, ticked = p.Right, api.Pair{Left: p.Left, Right: p.Right + 1}
				}
				file, no := api.Entry{Path: "b", Has: true, Data: "1", Clock: p}, api.Entry{Path: "b", Clock: p}
				for _, c := range []struct {
					was     api.Entry
					files   []api.File
					is      api.Entry
					changed bool
				}{
					{file, of("b", "1"), file, false},
					{no, nil, no, false},
					{file, of("b", "2"), api.Entry{Path: "b", Has: true, Data: "2", Clock: ticked}, true},
					{file, nil, api.Entry{Path: "b", Clock: ticked}, true},
					{no, of("b", ""), api.Entry{Path: "b", Has: true, Clock: ticked}, true},
				} {
					want := told{l: list(c.is)}
					if c.changed {
						want.changed = []string{"b"}
					}
					if c.changed && mine == most {
						want = told{err: api.ErrFull}
					}
					scans(t, list(c.was), c.files, number, want)
				}
			}
		}
	}
}

// P9.2: one Clock that can't be ticked, ahead of others, between, or behind them, and nothing at all is told.
func TestScanOneAtMaxCount(t *testing.T) {
	for n := range 16 {
		var l []api.Entry
		var files []api.File
		for i := range 16 {
			l = append(l, has(at(i), "1", 1, 1))
			files = append(files, api.File{Path: at(i), Data: "2"})
		}
		l[n].Clock = api.Pair{Left: most, Right: 1}
		scans(t, l, files, 0, told{err: api.ErrFull})
		scans(t, l, nil, 0, told{err: api.ErrFull})
		if got := scanned(l, files, 1); got.err != api.OK || len(got.changed) != 16 || got.l[n] != has(at(n), "2", most, 2) {
			t.Errorf("the other author at %d: %v", n, got)
		}
		files[n].Data = "1"
		if got := scanned(l, files, 0); got.err != api.OK || len(got.changed) != 15 || got.l[n] != l[n] {
			t.Errorf("what did not change at %d: %v", n, got)
		}
	}
}

// P9.2: up to MaxEntries entries come of it; one more is ErrFull, and nothing is told.
func TestScanFull(t *testing.T) {
	for known := range 33 {
		for files := range 17 {
			for from := range 40 {
				l, f := none(known), rows(from, files)
				alike := max(min(known, from+files)-from, 0)
				want := must(l, f, 0)
				if all := known + files - alike; (want.err == api.OK) != (all <= 32) || want.err == api.OK && len(want.l) != all {
					t.Fatal("the other way of telling is wrong", known, files, from, want.err)
				}
				scans(t, l, f, 0, want)
			}
		}
	}
	for _, c := range []struct {
		l    []api.Entry
		t    []api.File
		size int
	}{
		{none(32), nil, 32},
		{none(32), rows(16, 16), 32},
		{none(31), of("z", ""), 32},
		{none(31), of("-", ""), 32},
		{none(16), rows(16, 16), 32},
		{many(32), nil, 32},
		{none(32), of("z", ""), 0},
		{none(32), of("-", ""), 0},
		{none(32), of("d/b/aa", ""), 0},
		{none(32), rows(17, 16), 0},
		{none(17), rows(17, 16), 0},
		{none(31), of("-", "", "z", ""), 0},
		{many(32), of("z", ""), 0},
	} {
		got := scanned(c.l, c.t, 1)
		if c.size > 0 && (got.err != api.OK || len(got.l) != c.size) || c.size == 0 && !got.same(told{err: api.ErrFull}) {
			t.Errorf("Scan of %d entries and %d files: %d, %v", len(c.l), len(c.t), len(got.l), got.err)
		}
	}
}

// noTrees are trees that are not right.
func noTrees() [][]api.File {
	all := [][]api.File{
		of("b", "", "a", ""),
		of("a", "", "a", ""),
		of("a", "1", "a", "2"),
		of("a", "", "a/b", ""),
		of("a", "", "a.b", "", "a/b", ""),
		of("a/b", "", "a/b/c/d", ""),
		of("a", bytes(601)),
		of("a", "", "b", bytes(601), "c", ""),
		rows(0, 17),
		rows(0, 33),
		make([]api.File, 1),
		make([]api.File, 1<<16),
	}
	for _, s := range noPaths() {
		all = append(all, of(s, ""), of("-", "", s, ""))
	}
	return all
}

// P9.2: ErrArg at a tree that is not right, ahead of ErrFull.
func TestScanWrongTrees(t *testing.T) {
	for i, files := range noTrees() {
		for _, l := range [][]api.Entry{nil, list(has("a", "1", 1, 0)), list(has("a", "1", most, most)), list(gone("a", 1, 0), gone("b", most, most)), none(31), none(32), many(32)} {
			for author := range 2 {
				if got := scanned(l, files, author); !got.same(told{err: api.ErrArg}) {
					t.Errorf("Scan of %d entries and wrong tree %d: %.200v", len(l), i, got)
				}
			}
		}
	}
}

// trees are right ones.
func trees() [][]api.File {
	return [][]api.File{
		nil, {}, of("a", ""), of("a", "1"), of("a", "2", "b", "1"), of("a/b", "1"), of("-", "", "c", "", "z", bytes(600)), of("b", "", "d", "4", "e", ""), rows(0, 16), rows(20, 12), rows(24, 16),
	}
}

// P9.2: every right archive and tree of these, by both authors: against the other way.
func TestScanOfAll(t *testing.T) {
	for _, l := range rights() {
		for _, files := range trees() {
			for author := range 2 {
				scans(t, l, files, author, must(l, files, author))
			}
		}
	}
}

// room is l with spare room behind it, in which something stands.
func room[T any](l []T, behind ...T) []T {
	return append(slices.Clone(l), behind...)[:len(l)]
}

// P9.3: what is handed in stays as it is, its spare room too, whatever is told.
func TestArgumentsStay(t *testing.T) {
	entries := slices.Concat(rights(), wrong()[:24])
	for _, l := range entries {
		for _, files := range slices.Concat(trees(), noTrees()[:10]) {
			x, y := room(l, gone("z", 1, 0), has("a", "1", 0, 0), gone("", 0, 0)), room(files, of("z", "", "A", "", "a", "1")...)
			x, y = x[:len(l)+3], y[:len(files)+3]
			wantX, wantY := slices.Clone(x), slices.Clone(y)
			for author := range 2 {
				scan.Scan(x[:len(l)], y[:len(files)], author)
			}
			scan.Right(x[:len(l)])
			scan.Find(x[:len(l)], "a")
			scan.Tree(x[:len(l)])
			scan.Same(x[:len(l)], x[:len(l)])
			scan.Copy(x[:len(l)])
			if !slices.Equal(x, wantX) || !slices.Equal(y, wantY) {
				t.Fatalf("%.200v and %.200v became %.200v and %.200v", wantX, wantY, x, y)
			}
		}
	}
}

// spoil writes over all of l, and its spare room.
func spoil[T any](l []T, with T) {
	l = l[:cap(l)]
	for i := range l {
		l[i] = with
	}
}

// P9.3: who changes what was handed in, or answered, changes nothing else.
func TestAnswersApart(t *testing.T) {
	bad, badFile := has("spoilt", "spoilt", 7, 7), api.File{Path: "spoilt", Data: "spoilt"}
	for _, l := range rights() {
		for _, files := range trees() {
			x, y := room(l, bad, bad), room(files, badFile, badFile)
			want := must(l, files, 0)
			one, two := scanned(x, y, 0), scanned(x, y, 0)
			copied, other, held := scan.Copy(x), scan.Copy(x), scan.Tree(x)
			wantHeld := slices.Clone(held)
			spoil(two.l, bad)
			spoil(two.changed, "spoilt")
			spoil(other, bad)
			spoil(scan.Tree(x), badFile)
			if !slices.Equal(x, l) || !slices.Equal(y, files) {
				t.Fatalf("an answer that is changed changes %.200v or %.200v", l, files)
			}
			spoil(x, bad)
			spoil(y, badFile)
			if !one.same(want) || !slices.Equal(copied, l) || !slices.Equal(held, wantHeld) {
				t.Fatalf("of %.200v and %.200v: what is changed changes an answer", l, files)
			}
			spoil(one.l, bad)
			if !slices.Equal(one.changed, want.changed) {
				t.Fatalf("of %.200v and %.200v: the entries share memory with the paths", l, files)
			}
			if again := scanned(l, files, 0); !again.same(want) {
				t.Fatalf("of %.200v and %.200v: something is kept", l, files)
			}
		}
	}
}

// shares tells whether two strings have bytes in the same place.
func shares(a, b string) bool {
	if a == "" || b == "" {
		return false
	}
	p, q := uintptr(unsafe.Pointer(unsafe.StringData(a))), uintptr(unsafe.Pointer(unsafe.StringData(b)))
	return p < q+uintptr(len(b)) && q < p+uintptr(len(a))
}

// fresh tells where strings share bytes with each other, or with those that were given.
func fresh(t *testing.T, what string, given, l []string) {
	t.Helper()
	for i, a := range l {
		for _, b := range slices.Concat(given, l[:i]) {
			if shares(a, b) {
				t.Errorf("%s: %.40q is of old memory", what, a)
			}
		}
	}
}

// P9.3: strings that are answered are of new memory, too, those of both lists of one answer as well.
func TestStringsAreNew(t *testing.T) {
	entries := func(l []api.Entry) []string {
		var all []string
		for _, e := range l {
			all = append(all, e.Path, e.Data)
		}
		return all
	}
	files := func(t []api.File) []string {
		var all []string
		for _, f := range t {
			all = append(all, f.Path, f.Data)
		}
		return all
	}
	for _, l := range rights() {
		given := entries(l)
		copied, held := scan.Copy(l), scan.Tree(l)
		fresh(t, "Copy and Tree", given, slices.Concat(entries(copied), files(held)))
		for _, f := range trees() {
			one, two := scanned(l, f, 1), scanned(l, f, 1)
			fresh(t, "Scan", slices.Concat(given, files(f)), slices.Concat(entries(one.l), one.changed, entries(two.l), two.changed))
		}
	}
	for _, l := range wrong()[:22] {
		fresh(t, "Copy", entries(l), entries(scan.Copy(l)))
	}
}

// follows tells where what was scanned is not as P9.4 says.
func follows(t *testing.T, l []api.Entry, files []api.File, author int) []api.Entry {
	t.Helper()
	m, changed, err := scan.Scan(l, files, author)
	if err != api.OK {
		return l
	}
	if !scan.Right(m) || !isArchive(m) || !slices.Equal(scan.Tree(m), files) {
		t.Fatalf("Scan of %.200v and %.200v: %.200v is not right, or another tree's", l, files, m)
	}
	for _, again := range []int{author, author + 1} {
		if n, c, e := scan.Scan(m, files, again); e != api.OK || len(c) != 0 || !scan.Same(m, n) {
			t.Fatalf("Scan of %.200v and %.200v again: %.200v, %v, %v", m, files, n, c, e)
		}
	}
	for _, e := range m {
		i := scan.Find(l, e.Path)
		if slices.Contains(changed, e.Path) == (i >= 0 && l[i] == e) {
			t.Fatalf("Scan of %.200v and %.200v: %q changed without changing, or the other way round", l, files, e.Path)
		}
	}
	for _, e := range l {
		if scan.Find(m, e.Path) < 0 {
			t.Fatalf("Scan of %.200v and %.200v: %q is not known any more", l, files, e.Path)
		}
	}
	return m
}

// P9.4: of all archives and trees of three paths.
func TestFollowsOfThree(t *testing.T) {
	each([]string{"a", "a/b", "b"}, func(l []api.Entry, files []api.File) {
		follows(t, l, files, len(l)%2)
	})
	for _, l := range rights() {
		for _, files := range trees() {
			follows(t, l, files, 0)
			follows(t, l, files, 1)
		}
	}
}

// P9.4: many scans behind each other, of trees at random.
func TestFollowsForLong(t *testing.T) {
	r := rand.New(rand.NewSource(9))
	full := 0
	for range 60 {
		var l []api.Entry
		var files []api.File
		for range 120 {
			p := at(r.Intn(36))
			if r.Intn(5) == 0 {
				p = some()[r.Intn(len(some()))]
			}
			next, err := tree.Put(files, p, string(rune('0'+r.Intn(3))))
			if len(files) > 0 && (r.Intn(3) == 0 || err != api.OK) {
				next, err = tree.Drop(files, files[r.Intn(len(files))].Path)
			}
			if err != api.OK {
				continue
			}
			author := r.Intn(2)
			want := must(l, next, author)
			scans(t, l, next, author, want)
			if want.err != api.OK {
				full++
				continue
			}
			l, files = follows(t, l, next, author), next
		}
	}
	if full == 0 {
		t.Error("no archive was full")
	}
}

// read makes an archive and a tree of bytes, right ones often, and wrong ones too.
func read(b []byte) ([]api.Entry, []api.File) {
	counts := []int{1, 0, 2, most, most - 1, -1, most + 1}
	var l []api.Entry
	var t []api.File
	for len(b) >= 3 {
		p := at(int(b[0] % 40))
		if b[0] >= 200 {
			p = some()[int(b[0])%len(some())]
		}
		data := []string{"", "1", "2", "1", bytes(600), bytes(601)}[b[1]%6]
		switch b[1] >> 6 {
		case 0:
			t = append(t, api.File{Path: p, Data: data})
		case 1:
			l = append(l, has(p, data, counts[b[2]%7], counts[b[2]/7%7]))
		default:
			l = append(l, gone(p, counts[b[2]%7], counts[b[2]/7%7]))
		}
		b = b[3:]
	}
	if len(l)%5 > 0 {
		slices.SortFunc(l, func(x, y api.Entry) int { return strings.Compare(x.Path, y.Path) })
		l = slices.CompactFunc(l, func(x, y api.Entry) bool { return x.Path == y.Path })
	}
	if len(t)%5 > 0 {
		slices.SortFunc(t, func(x, y api.File) int { return strings.Compare(x.Path, y.Path) })
		t = slices.CompactFunc(t, func(x, y api.File) bool { return x.Path == y.Path })
	}
	return l, t
}

// FuzzScans holds Right, Find, Tree, Copy and Scan against the other ways, at any archive and tree.
func FuzzScans(f *testing.F) {
	f.Add([]byte{}, 0)
	f.Add([]byte{1, 64, 0, 2, 128, 0, 1, 1, 0, 3, 2, 0}, 1)
	f.Add([]byte{1, 64, 3, 2, 128, 21, 1, 65, 6, 200, 2, 0, 203, 1, 0}, -1)
	f.Add(slices.Repeat([]byte{7, 128, 0, 13, 1, 1, 39, 64, 0}, 9), api.MinInt)
	f.Fuzz(func(t *testing.T, b []byte, author int) {
		l, files := read(b[:min(len(b), 600)])
		right := isArchive(l)
		if scan.Right(l) != right || !scan.Same(l, scan.Copy(l)) {
			t.Fatalf("Right of %v is not %v, or Copy is another one", l, right)
		}
		for i, e := range l {
			if got := scan.Find(l, e.Path); right && got != i || !right && got != -1 {
				t.Fatalf("Find(%v, %q) = %d", l, e.Path, got)
			}
		}
		if !right && len(scan.Tree(l)) != 0 {
			t.Fatalf("Tree of %v", l)
		}
		scans(t, l, files, author, must(l, files, author))
		follows(t, l, files, author)
	})
}
