package recon_test

import (
	"fmt"
	"maps"
	"math/rand"
	"regexp"
	"slices"
	"strings"
	"testing"
	"unsafe"

	"carpetbag/api"
	"carpetbag/recon"
	"carpetbag/scan"
	"carpetbag/tree"
)

// most is the greatest count.
const most = 1 << 30

// has is an entry with a file.
func has(path, data string, left, right int) api.Entry {
	return api.Entry{Path: path, Has: true, Data: data, Clock: api.Pair{Left: left, Right: right}}
}

// gone is an entry without one.
func gone(path string, left, right int) api.Entry {
	return api.Entry{Path: path, Clock: api.Pair{Left: left, Right: right}}
}

// list is the archive of those entries.
func list(l ...api.Entry) []api.Entry { return l }

// of is the files of those paths and data, in turn.
func of(l ...string) []api.File {
	var t []api.File
	for i := 0; i < len(l); i += 2 {
		t = append(t, api.File{Path: l[i], Data: l[i+1]})
	}
	return t
}

// put and drop are actions.
func put(path, data string) api.Action { return api.Action{Path: path, Put: true, Data: data} }
func drop(path string) api.Action      { return api.Action{Path: path} }

// bytes is a string of n bytes.
func bytes(n int) string { return strings.Repeat("x", n) }

// at is the i-th of many rising paths, none of which is Under another one.
func at(i int) string { return fmt.Sprintf("d/%c/%c", 'a'+i/8, 'a'+i%8) }

// none is n entries from a place on, without a file, of the one author or the other.
func none(from, n, author int) []api.Entry {
	var l []api.Entry
	for i := range n {
		l = append(l, gone(at(from+i), 1-author, author))
	}
	return l
}

// full is n entries from a place on, each with a file, of the one author or the other.
func full(from, n, author int) []api.Entry {
	l := none(from, n, author)
	for i := range l {
		l[i].Has, l[i].Data = true, "f"
	}
	return l
}

// rows is files of n paths, from a place on.
func rows(from, n int) []api.File {
	var t []api.File
	for i := range n {
		t = append(t, api.File{Path: at(from + i), Data: "new"})
	}
	return t
}

// some are paths that lie every way to each other.
func some() []string {
	return []string{"a", "a-", "a.b", "a/b", "a/b.c", "a/b/c", "a/b/c/d", "ab", "b", "b/a"}
}

// noPaths are strings that are none.
func noPaths() []string {
	return []string{
		"", ".", "..", "/", "A", "a b", "/a", "a/", "a//b", "a/.", "a/b/c/d/", "a/b/c/d/e", "a\x00", "\xff", "abcdefghijklm", bytes(1 << 16),
	}
}

// wrong are archives that are not right.
func wrong() [][]api.Entry {
	all := [][]api.Entry{
		list(gone("b", 1, 0), gone("a", 1, 0)),
		list(has("b", "1", 1, 0), has("a", "2", 1, 0)),
		list(gone("a", 1, 0), gone("a", 1, 0)),
		list(has("a", "1", 2, 0), gone("a", 1, 0)),
		list(has("a", "1", 1, 0), has("a/b", "2", 1, 0)),
		list(has("a", "1", 1, 0), has("a.b", "2", 1, 0), has("a/b", "3", 1, 0)),
		list(api.Entry{Path: "a", Data: "x", Clock: api.Pair{Left: 1}}),
		list(has("a", bytes(601), 1, 0)),
		list(gone("a", 0, 0)),
		list(has("a", "1", 0, 0)),
		list(has("a", "1", -1, 1)),
		list(has("a", "1", 1, -1)),
		list(has("a", "1", most+1, 0)),
		list(has("a", "1", 0, most+1)),
		list(has("a", "1", api.MinInt, api.MaxInt)),
		none(0, 33, 0),
		full(0, 17, 0),
		slices.Concat(none(0, 15, 0), full(15, 17, 1)),
		make([]api.Entry, 1),
		make([]api.Entry, 1<<16),
	}
	for _, s := range noPaths() {
		all = append(all, list(gone(s, 1, 0)), list(has(s, "1", 1, 0)), list(gone("-", 1, 0), has(s, "", 1, 0), gone("z", 1, 0)))
	}
	return all
}

// rights are archives that are.
func rights() [][]api.Entry {
	return [][]api.Entry{
		nil,
		{},
		list(gone("a", 1, 0)),
		list(gone("a", 0, 1)),
		list(has("a", "", 1, 0)),
		list(has("a", "1", 1, 0)),
		list(has("a", "1", 0, 1)),
		list(has("a", "2", 1, 0)),
		list(has("a", "2", 2, 1)),
		list(has("a", "2", most, most)),
		list(has("a", bytes(600), 1, 2), has("b", "1", 1, 0)),
		list(gone("a", 1, 0), has("a/b", "1", 1, 0)),
		list(has("a", "1", 1, 0), gone("a/b", 0, 1)),
		list(gone("a", 2, 1), gone("a/b", 1, 0), has("a/b/c", "1", 1, 0), gone("a/b/c/d", 1, 0)),
		list(has("a", "1", 1, 0), has("a.b", "2", 0, 1)),
		list(gone("a", 1, 0), has("b", "", 1, 0), gone("c", 0, 2), has("d", "4", 1, 1), gone("e", 1, 0)),
		list(has("b", "2", 0, 3), has("c", "7", 2, 0), has("d", "4", 0, 2), gone("e", 0, 1)),
		none(0, 31, 0), none(0, 32, 1), none(16, 16, 0),
		full(0, 16, 0), full(1, 16, 1), full(8, 8, 1),
		slices.Concat(full(0, 16, 1), none(16, 16, 1)),
		slices.Concat(none(0, 16, 1), full(16, 16, 0)),
	}
}

// noTrees are trees that are not right.
func noTrees() [][]api.File {
	all := [][]api.File{
		of("b", "", "a", ""),
		of("a", "", "a", ""),
		of("a", "1", "a", "2"),
		of("a", "", "a/b", ""),
		of("a", "", "a.b", "", "a/b", ""),
		of("a/b", "", "a/b/c/d", ""),
		of("a", bytes(601)),
		rows(0, 17),
		make([]api.File, 1),
		make([]api.File, 1<<16),
	}
	for _, s := range noPaths() {
		all = append(all, of(s, ""), of("-", "", s, ""))
	}
	return all
}

// trees are right ones.
func trees() [][]api.File {
	return [][]api.File{
		nil, {}, of("a", ""), of("a", "1"), of("a", "2", "b", "1"), of("a/b", "1"), of("a/b/c", "1"), of("a", "1", "a.b", "2"), of("-", "", "c", "", "z", bytes(600)), of("b", "", "d", "4", "e", ""), rows(0, 16), rows(20, 12), rows(24, 16),
	}
}

// authors are all kinds of numbers: those of author 0, and those of author 1.
func authors() [][]int {
	return [][]int{{0, 2, -2, 1 << 40, api.MinInt, api.MaxInt - 1}, {1, 3, -1, -3, 1<<40 + 1, api.MinInt + 1, api.MaxInt}}
}

var name = regexp.MustCompile(`^[a-z0-9.-]{1,12}$`)

// isPath tells by another way what a path is.
func isPath(s string) bool {
	names := strings.Split(s, "/")
	for _, n := range names {
		if !name.MatchString(n) || n == "." || n == ".." {
			return false
		}
	}
	return len(names) <= 4
}

// clash tells by another way which paths do.
func clash(a, b string) bool {
	return strings.HasPrefix(a, b+"/") || strings.HasPrefix(b, a+"/")
}

// isTree tells by another way what a right tree is.
func isTree(t []api.File) bool {
	for i, f := range t {
		if !isPath(f.Path) || len(f.Data) > 600 {
			return false
		}
		for _, g := range t[:i] {
			if f.Path <= g.Path || clash(f.Path, g.Path) {
				return false
			}
		}
	}
	return len(t) <= 16
}

// filesOf has the files of those that have one, of any list.
func filesOf(l []api.Entry) []api.File {
	var t []api.File
	for _, e := range l {
		if e.Has {
			t = append(t, api.File{Path: e.Path, Data: e.Data})
		}
	}
	return t
}

// isArchive tells by another way what a right archive is.
func isArchive(l []api.Entry) bool {
	for i, e := range l {
		c := e.Clock
		if !isPath(e.Path) || i > 0 && e.Path <= l[i-1].Path || c.Left < 0 || c.Right < 0 || c.Left > most || c.Right > most || c.Left+c.Right == 0 || !e.Has && e.Data != "" {
			return false
		}
	}
	return len(l) <= 32 && isTree(filesOf(l))
}

// told is what Merge answers.
type told struct {
	l         []api.Entry
	conflicts []string
	err       api.Errno
}

func merged(mine, theirs []api.Entry) told {
	l, c, e := recon.Merge(mine, theirs)
	return told{l, c, e}
}

// String lets a message be cut, however much is told.
func (a told) String() string { return fmt.Sprint(a.l, a.conflicts, a.err) }

func (a told) same(b told) bool {
	return slices.Equal(a.l, b.l) && slices.Equal(a.conflicts, b.conflicts) && a.err == b.err
}

// byPath has the entries of an archive by their paths.
func byPath(l []api.Entry) map[string]api.Entry {
	m := map[string]api.Entry{}
	for _, e := range l {
		m[e.Path] = e
	}
	return m
}

// pathsOf has each path that one of them has, rising.
func pathsOf(ls ...[]api.Entry) []string {
	all := map[string]int{}
	for _, l := range ls {
		for _, e := range l {
			all[e.Path] = 1
		}
	}
	return slices.Sorted(maps.Keys(all))
}

// refused tells by another way why those entries can't be an archive.
func refused(l []api.Entry) api.Errno {
	t := filesOf(l)
	if len(l) > 32 || len(t) > 16 {
		return api.ErrFull
	}
	for _, f := range t {
		for _, g := range t {
			if clash(f.Path, g.Path) {
				return api.ErrName
			}
		}
	}
	return api.OK
}

// must tells by another way what Merge answers: by maps, and by which side knows of something that the other one does not.
func must(mine, theirs []api.Entry) told {
	if !isArchive(mine) || !isArchive(theirs) {
		return told{err: api.ErrArg}
	}
	m, h := byPath(mine), byPath(theirs)
	var r told
	for _, p := range pathsOf(mine, theirs) {
		a, isA := m[p]
		b, isB := h[p]
		more := a.Clock.Left > b.Clock.Left || a.Clock.Right > b.Clock.Right
		less := a.Clock.Left < b.Clock.Left || a.Clock.Right < b.Clock.Right
		comes := a
		switch {
		case !isA, isB && less && !more:
			comes = b
		case !isB, more && !less:
		case a.Has == b.Has && a.Data == b.Data:
			comes.Clock = api.Pair{Left: max(a.Clock.Left, b.Clock.Left), Right: max(a.Clock.Right, b.Clock.Right)}
		default:
			r.conflicts = append(r.conflicts, p)
		}
		r.l = append(r.l, comes)
	}
	if err := refused(r.l); err != api.OK {
		return told{err: err}
	}
	return r
}

// mustSettle tells by another way what Settle answers.
func mustSettle(mine, theirs []api.Entry, path string, take bool, author int) ([]api.Entry, api.Errno) {
	m := must(mine, theirs)
	if m.err != api.OK {
		return nil, m.err
	}
	if !slices.Contains(m.conflicts, path) {
		return nil, api.ErrNone
	}
	a, b := byPath(mine)[path], byPath(theirs)[path]
	s := a
	if take {
		s = b
	}
	s.Clock = api.Pair{Left: max(a.Clock.Left, b.Clock.Left), Right: max(a.Clock.Right, b.Clock.Right)}
	count := &s.Clock.Left
	if author&1 == 1 {
		count = &s.Clock.Right
	}
	if *count == most {
		return nil, api.ErrFull
	}
	*count++
	var l []api.Entry
	for _, e := range mine {
		if e.Path == path {
			e = s
		}
		l = append(l, e)
	}
	if err := refused(l); err != api.OK {
		return nil, err
	}
	return l, api.OK
}

// mustPlan tells by another way what Plan answers.
func mustPlan(t []api.File, l []api.Entry) ([]api.Action, api.Errno) {
	if !isTree(t) || !isArchive(l) {
		return nil, api.ErrArg
	}
	was, is := map[string]string{}, map[string]string{}
	for _, f := range t {
		was[f.Path] = f.Data
	}
	for _, f := range filesOf(l) {
		is[f.Path] = f.Data
	}
	var plan []api.Action
	for _, p := range slices.Sorted(maps.Keys(was)) {
		if _, there := is[p]; !there {
			plan = append(plan, drop(p))
		}
	}
	for _, p := range slices.Sorted(maps.Keys(is)) {
		if data, there := was[p]; !there || data != is[p] {
			plan = append(plan, put(p, is[p]))
		}
	}
	return plan, api.OK
}

// merges tells where Merge answers otherwise than it must.
func merges(t *testing.T, mine, theirs []api.Entry, want told) {
	t.Helper()
	if got := merged(mine, theirs); !got.same(want) {
		t.Fatalf("Merge of %.300v and %.300v: %.300v, want %.300v", mine, theirs, got, want)
	}
}

// settles tells where Settle answers otherwise than it must.
func settles(t *testing.T, mine, theirs []api.Entry, path string, take bool, author int, want []api.Entry, err api.Errno) {
	t.Helper()
	if got, e := recon.Settle(mine, theirs, path, take, author); !slices.Equal(got, want) || e != err {
		t.Fatalf("Settle of %.300v and %.300v at %.40q, %v, by %d: %.300v, %v, want %.300v, %v", mine, theirs, path, take, author, got, e, want, err)
	}
}

// plans tells where Plan answers otherwise than it must.
func plans(t *testing.T, files []api.File, l []api.Entry, want []api.Action, err api.Errno) {
	t.Helper()
	if got, e := recon.Plan(files, l); !slices.Equal(got, want) || e != err {
		t.Fatalf("Plan of %.300v and %.300v: %.300v, %v, want %.300v, %v", files, l, got, e, want, err)
	}
}

// The limits are what the document says, and the archives of these tests what they are said to be.
func TestLimits(t *testing.T) {
	if api.MaxEntries != 32 || api.MaxFiles != 16 || api.MaxData != 600 || api.MaxCount != most {
		t.Error(api.MaxEntries, api.MaxFiles, api.MaxData, api.MaxCount)
	}
	for i, l := range rights() {
		if !scan.Right(l) || !isArchive(l) {
			t.Errorf("right archive %d is not", i)
		}
	}
	for i, l := range wrong() {
		if scan.Right(l) || isArchive(l) {
			t.Errorf("wrong archive %d is right", i)
		}
	}
	for i, l := range noTrees() {
		if tree.Right(l) || isTree(l) {
			t.Errorf("wrong tree %d is right", i)
		}
	}
}

// P10.1: what comes of two archives, written out.
func TestMerge(t *testing.T) {
	a := list(has("a", "1", 1, 0))
	for _, c := range []struct {
		mine, theirs, want []api.Entry
		conflicts          []string
	}{
		{nil, nil, nil, nil},
		{list(), list(), nil, nil},
		{a, nil, a, nil},
		{nil, a, a, nil},
		{list(), a, a, nil},
		{a, a, a, nil},
		{list(gone("a", 1, 0)), nil, list(gone("a", 1, 0)), nil},
		{nil, list(gone("a", 1, 0)), list(gone("a", 1, 0)), nil},
		{list(gone("a", 1, 0)), list(gone("a", 1, 0)), list(gone("a", 1, 0)), nil},
		// The examples of the document.
		{list(has("a", "1", 2, 0)), list(has("a", "2", 1, 1)), list(has("a", "1", 2, 0)), []string{"a"}},
		{list(has("a", "1", 1, 0)), list(has("a", "2", 1, 1)), list(has("a", "2", 1, 1)), nil},
		{list(has("a", "1", 1, 1)), list(has("a", "2", 1, 0)), list(has("a", "1", 1, 1)), nil},
		// Alike: with one value, and with two.
		{list(has("a", "1", 1, 1)), list(has("a", "2", 1, 1)), list(has("a", "1", 1, 1)), []string{"a"}},
		{list(has("a", "", 1, 1)), list(gone("a", 1, 1)), list(has("a", "", 1, 1)), []string{"a"}},
		{list(gone("a", 1, 1)), list(has("a", "", 1, 1)), list(gone("a", 1, 1)), []string{"a"}},
		// Before and After, with one value: the later Clock.
		{list(has("a", "1", 1, 0)), list(has("a", "1", 3, 0)), list(has("a", "1", 3, 0)), nil},
		{list(has("a", "1", 1, 4)), list(has("a", "1", 1, 3)), list(has("a", "1", 1, 4)), nil},
		{list(gone("a", 1, 0)), list(gone("a", 1, 9)), list(gone("a", 1, 9)), nil},
		// Before and After, with two values.
		{list(gone("a", 1, 0)), list(has("a", "1", 1, 1)), list(has("a", "1", 1, 1)), nil},
		{list(has("a", "1", 1, 0)), list(gone("a", 1, 1)), list(gone("a", 1, 1)), nil},
		{list(has("a", "1", 2, 2)), list(gone("a", 1, 1)), list(has("a", "1", 2, 2)), nil},
		{list(gone("a", 2, 2)), list(has("a", "1", 1, 2)), list(gone("a", 2, 2)), nil},
		// Apart: with one value, and with two.
		{list(has("a", "1", 2, 0)), list(has("a", "1", 1, 1)), list(has("a", "1", 2, 1)), nil},
		{list(gone("a", 0, 7)), list(gone("a", 7, 0)), list(gone("a", 7, 7)), nil},
		{list(has("a", "", most, 0)), list(has("a", "", 0, most)), list(has("a", "", most, most)), nil},
		{list(has("a", "1", 2, 0)), list(gone("a", 1, 1)), list(has("a", "1", 2, 0)), []string{"a"}},
		{list(gone("a", 0, 1)), list(has("a", "", 1, 0)), list(gone("a", 0, 1)), []string{"a"}},
		// Paths of both sides, rising, and conflicts among them.
		{
			list(has("b", "1", 2, 0), gone("c", 1, 0), has("e", "1", 2, 0)),
			list(has("a", "1", 0, 1), has("b", "2", 1, 1), has("d", "4", 0, 1), gone("e", 1, 1), gone("f", 0, 1)),
			list(has("a", "1", 0, 1), has("b", "1", 2, 0), gone("c", 1, 0), has("d", "4", 0, 1), has("e", "1", 2, 0), gone("f", 0, 1)),
			[]string{"b", "e"},
		},
		{list(has("10", "", 1, 0)), list(has("9", "", 1, 0)), list(has("10", "", 1, 0), has("9", "", 1, 0)), nil},
		{list(has("a/b", "", 1, 0)), list(has("a-", "", 1, 0), has("ab", "", 1, 0)), list(has("a-", "", 1, 0), has("a/b", "", 1, 0), has("ab", "", 1, 0)), nil},
		// A file becomes a directory on one side: there is nothing in the way.
		{list(has("a", "1", 1, 0)), list(gone("a", 1, 1), has("a/b", "1", 0, 1)), list(gone("a", 1, 1), has("a/b", "1", 0, 1)), nil},
		{list(gone("a", 1, 1), has("a/b", "1", 0, 1)), list(has("a", "1", 1, 0)), list(gone("a", 1, 1), has("a/b", "1", 0, 1)), nil},
	} {
		want := told{c.want, c.conflicts, api.OK}
		merges(t, c.mine, c.theirs, want)
		if !must(c.mine, c.theirs).same(want) {
			t.Errorf("the other way tells otherwise of %v and %v", c.mine, c.theirs)
		}
	}
}

// clocks are pairs that an entry may have, which lie every way to each other.
func clocks() []api.Pair {
	var all []api.Pair
	for _, l := range []int{0, 1, 2, most - 1, most} {
		for _, r := range []int{0, 1, 2, most - 1, most} {
			if l+r > 0 {
				all = append(all, api.Pair{Left: l, Right: r})
			}
		}
	}
	return all
}

// values are entries of a path, one of each value.
func values(path string, c api.Pair) []api.Entry {
	return list(gone(path, c.Left, c.Right), has(path, "", c.Left, c.Right), has(path, "1", c.Left, c.Right), has(path, "2", c.Left, c.Right))
}

// P10.1: of one path, each two Clocks, with each two values.
func TestMergeByClocks(t *testing.T) {
	kinds := map[string]int{}
	for _, c := range clocks() {
		for _, d := range clocks() {
			for i, a := range values("p", c) {
				for j, b := range values("p", d) {
					join := a
					join.Clock = api.Pair{Left: max(c.Left, d.Left), Right: max(c.Right, d.Right)}
					want, kind := told{l: list(a)}, "alike"
					switch {
					case c == d && i == j:
					case c.Left >= d.Left && c.Right >= d.Right && c != d:
						kind = "after"
					case c.Left <= d.Left && c.Right <= d.Right && c != d:
						want.l, kind = list(b), "before"
					case i == j:
						want.l, kind = list(join), "apart"
					default:
						want.conflicts, kind = []string{"p"}, "conflict"
					}
					merges(t, list(a), list(b), want)
					kinds[kind]++
				}
			}
		}
	}
	if len(kinds) != 5 {
		t.Error(kinds)
	}
}

// each goes over all that both sides may know of those paths: nothing, or one of those entries without its path.
func each(paths []string, entries []api.Entry, yield func(mine, theirs []api.Entry)) {
	ways := len(entries) + 1
	all := 1
	for range 2 * len(paths) {
		all *= ways
	}
	for k := range all {
		var both [2][]api.Entry
		for i := range 2 * len(paths) {
			if n := k % ways; n > 0 {
				e := entries[n-1]
				e.Path = paths[i/2]
				both[i%2] = append(both[i%2], e)
			}
			k /= ways
		}
		yield(both[0], both[1])
	}
}

// small are entries without paths, whose Clocks lie every way to each other.
func small() []api.Entry {
	return list(gone("", 1, 0), has("", "1", 1, 0), has("", "2", 1, 0), gone("", 0, 1), has("", "1", 0, 1), has("", "2", 0, 1), gone("", 1, 1), has("", "1", 1, 1), has("", "2", 1, 1))
}

// P10.1: all that two archives may know of two paths, of paths that Clash too: against the other way.
func TestMergeOfTwoPaths(t *testing.T) {
	ended := map[api.Errno]int{}
	for _, paths := range [][]string{{"a", "b"}, {"a", "a/b"}, {"a/b", "a/b/c/d"}, {"a", "a.b"}} {
		each(paths, small(), func(mine, theirs []api.Entry) {
			want := must(mine, theirs)
			merges(t, mine, theirs, want)
			ended[want.err]++
		})
	}
	if ended[api.OK] < 9999 || ended[api.ErrArg] < 999 || ended[api.ErrName] < 500 {
		t.Error("too few of a kind:", ended)
	}
}

// P10.1: and of three, with fewer Clocks.
func TestMergeOfThreePaths(t *testing.T) {
	for _, paths := range [][]string{{"a", "b", "c"}, {"a", "a.b", "a/b"}, {"a", "a/b", "a/b/c"}} {
		each(paths, list(gone("", 1, 1), has("", "1", 1, 0), has("", "2", 0, 1)), func(mine, theirs []api.Entry) {
			merges(t, mine, theirs, must(mine, theirs))
		})
	}
}

// P10.1: up to MaxEntries entries come of both, however many each has; one more is ErrFull, and nothing is told.
func TestMergeFullOfEntries(t *testing.T) {
	for n := range 33 {
		for from := range 40 {
			for _, k := range []int{0, 1, 2, 15, 16, 17, 31, 32} {
				mine, theirs := none(0, n, 0), none(from, k, 1)
				all := n + k - max(min(n, from+k)-from, 0)
				got := merged(mine, theirs)
				if all > 32 && !got.same(told{err: api.ErrFull}) || all <= 32 && (got.err != api.OK || len(got.l) != all || len(got.conflicts) != 0) {
					t.Fatalf("Merge of %d entries, and %d from %d on: %d, %v", n, k, from, len(got.l), got.err)
				}
			}
		}
	}
}

// P10.1: up to MaxFiles files are among them; one more is ErrFull.
func TestMergeFullOfFiles(t *testing.T) {
	for n := range 17 {
		for from := range 18 {
			for k := range 17 {
				mine, theirs := full(0, n, 0), full(from, k, 1)
				all := n + k - max(min(n, from+k)-from, 0)
				if all > 32 {
					continue
				}
				got := merged(mine, theirs)
				if all > 16 && !got.same(told{err: api.ErrFull}) || all <= 16 && (got.err != api.OK || len(filesOf(got.l)) != all || len(got.conflicts) != 0) {
					t.Fatalf("Merge of %d files, and %d from %d on: %d, %v", n, k, from, len(got.l), got.err)
				}
			}
		}
	}
	// What counts is what comes of both: a file that is gone by then is none, and one that came back is one.
	later := list(gone(at(0), 1, 1), has(at(16), "", 0, 1))
	if got := merged(full(0, 16, 0), later); got.err != api.OK || len(got.l) != 17 || len(filesOf(got.l)) != 16 {
		t.Error(got)
	}
	later[0].Clock = api.Pair{Right: 1}
	if got := merged(full(0, 16, 0), later); !got.same(told{err: api.ErrFull}) {
		t.Error("a conflict that keeps its file:", got)
	}
	if got := merged(later, full(0, 16, 0)); got.err != api.OK || len(filesOf(got.l)) != 16 || !slices.Equal(got.conflicts, []string{at(0)}) {
		t.Error("a conflict that keeps none:", got)
	}
	back := slices.Concat(list(gone(at(0), 1, 0)), full(1, 16, 0))
	if got := merged(back, list(has(at(0), "", 1, 1))); !got.same(told{err: api.ErrFull}) {
		t.Error("one that came back:", got)
	}
	if got := merged(back, list(has(at(0), "", 0, 1))); got.err != api.OK || !slices.Equal(got.conflicts, []string{at(0)}) {
		t.Error("one that did not:", got)
	}
}

// P10.1: files of two paths that Clash are ErrName, whichever side has which; what has no file is in nobody's way.
func TestMergeClash(t *testing.T) {
	for _, a := range some() {
		for _, b := range some() {
			want := api.OK
			if clash(a, b) {
				want = api.ErrName
			}
			if got := merged(list(has(a, "1", 1, 0)), list(has(b, "1", 0, 1))); got.err != want || want != api.OK && !got.same(told{err: want}) {
				t.Errorf("Merge of a file at %s and one at %s: %v", a, b, got)
			}
			for _, c := range [][2][]api.Entry{
				{list(gone(a, 1, 0)), list(has(b, "1", 0, 1))},
				{list(has(a, "1", 1, 0)), list(gone(b, 0, 1))},
				{list(gone(a, 1, 0)), list(gone(b, 0, 1))},
			} {
				if got := merged(c[0], c[1]); got.err != api.OK {
					t.Errorf("Merge of %v and %v: %v", c[0], c[1], got)
				}
			}
		}
	}
	// Among many others, with others between.
	l := full(0, 14, 0)
	for _, p := range []string{"d", at(0) + "/x", at(7) + "/x", at(13) + "/x", "d/b"} {
		merges(t, l, list(has(p, "", 0, 1)), told{err: api.ErrName})
		merges(t, list(has(p, "", 0, 1)), l, told{err: api.ErrName})
	}
	merges(t, list(has("a", "1", 1, 0), has("a.b", "", 1, 0)), list(has("a/b", "2", 0, 1)), told{err: api.ErrName})
	// A conflict keeps mine's file, which Clashes, or mine's none, which does not.
	file, no := list(has("a", "1", 1, 0)), list(gone("a", 0, 1), has("a/b", "2", 0, 1))
	merges(t, file, no, told{err: api.ErrName})
	merges(t, no, file, told{no, []string{"a"}, api.OK})
}

// W4, P10.1: ErrArg is told ahead of ErrFull, that one ahead of ErrName.
func TestMergeSeveralErrors(t *testing.T) {
	clashing := list(has("d", "", 0, 1))
	if got := merged(full(0, 16, 0), clashing); !got.same(told{err: api.ErrFull}) {
		t.Error("too many files, which Clash:", got)
	}
	if got := merged(full(0, 15, 0), clashing); !got.same(told{err: api.ErrName}) {
		t.Error("files that Clash:", got)
	}
	if got := merged(slices.Concat(full(0, 1, 0), none(1, 31, 0)), clashing); !got.same(told{err: api.ErrFull}) {
		t.Error("too many entries, with files that Clash:", got)
	}
	if got := merged(slices.Concat(full(0, 1, 0), none(1, 30, 0)), clashing); !got.same(told{err: api.ErrName}) {
		t.Error("files that Clash among MaxEntries:", got)
	}
	bad := slices.Concat(full(0, 16, 0), list(has("d", "", 0, 1)))
	for _, l := range [][]api.Entry{full(16, 16, 1), clashing, none(17, 32, 0)} {
		merges(t, bad, l, told{err: api.ErrArg})
		merges(t, l, bad, told{err: api.ErrArg})
	}
	// A conflict beside an error is not told.
	merges(t, list(has("a", "1", 1, 0), has("b", "1", 1, 0)), list(has("a", "2", 0, 1), has("b/c", "1", 0, 1)), told{err: api.ErrName})
}

// The words: of what is no right archive, mine's, theirs or both, each call tells none and ErrArg, or no.
func TestWrongArchives(t *testing.T) {
	for i, bad := range wrong() {
		for _, fine := range [][]api.Entry{nil, list(has("a", "1", 1, 0)), list(has("zz", "2", 0, 1)), none(0, 32, 0), full(0, 16, 1), bad} {
			for _, two := range [][2][]api.Entry{{bad, fine}, {fine, bad}} {
				if got := merged(two[0], two[1]); !got.same(told{err: api.ErrArg}) {
					t.Errorf("Merge with wrong archive %d: %.200v", i, got)
				}
				for _, p := range []string{"a", "zz", "", at(0)} {
					for author := range 2 {
						if got, err := recon.Settle(two[0], two[1], p, author == 0, author); len(got) != 0 || err != api.ErrArg {
							t.Errorf("Settle with wrong archive %d: %.200v, %v", i, got, err)
						}
					}
					if recon.Agree(two[0], two[1], p) {
						t.Errorf("Agree with wrong archive %d at %q", i, p)
					}
				}
			}
		}
		for _, files := range slices.Concat(trees(), noTrees()[:3]) {
			if got, err := recon.Plan(files, bad); len(got) != 0 || err != api.ErrArg {
				t.Errorf("Plan with wrong archive %d: %.200v, %v", i, got, err)
			}
		}
	}
}

// P10.2: what leads from a tree to an archive's, written out.
func TestPlan(t *testing.T) {
	for _, c := range []struct {
		files []api.File
		l     []api.Entry
		want  []api.Action
	}{
		{nil, nil, nil},
		{[]api.File{}, list(), nil},
		{nil, list(gone("a", 1, 0)), nil},
		{of("a", "1"), list(has("a", "1", 1, 0)), nil},
		{of("a", "1"), list(has("a", "1", most, most), gone("b", 1, 0)), nil},
		{rows(0, 16), scanned(rows(0, 16)), nil},
		// Dropped: with an entry that has no file, and without one.
		{of("a", "1"), nil, []api.Action{drop("a")}},
		{of("a", ""), list(gone("a", 1, 0)), []api.Action{drop("a")}},
		{of("a", "1", "b", "2", "c", "3"), list(gone("a", 1, 0), has("b", "2", 1, 0)), []api.Action{drop("a"), drop("c")}},
		// Put: new, and with other bytes.
		{nil, list(has("a", "1", 1, 0)), []api.Action{put("a", "1")}},
		{nil, list(has("a", "", 1, 0), has("b", bytes(600), 1, 0)), []api.Action{put("a", ""), put("b", bytes(600))}},
		{of("a", "1"), list(has("a", "2", 1, 0)), []api.Action{put("a", "2")}},
		{of("a", "1"), list(has("a", "", 1, 0)), []api.Action{put("a", "")}},
		{of("a", ""), list(has("a", "1", 1, 0)), []api.Action{put("a", "1")}},
		{of("b", "1"), list(has("a", "2", 1, 0), has("b", "1", 1, 0), has("c", "3", 0, 1)), []api.Action{put("a", "2"), put("c", "3")}},
		// Both: all that are dropped ahead of all that are put.
		{of("b", "1"), list(has("a", "1", 1, 0)), []api.Action{drop("b"), put("a", "1")}},
		{of("a", "1"), list(has("b", "1", 1, 0)), []api.Action{drop("a"), put("b", "1")}},
		{of("b", "1", "d", "1", "e", "1"), list(has("a", "1", 1, 0), gone("b", 1, 0), has("c", "", 1, 0), has("e", "2", 1, 0)), []api.Action{drop("b"), drop("d"), put("a", "1"), put("c", ""), put("e", "2")}},
		{of("a/b", "1", "a/c", "1"), list(has("a", "2", 1, 0)), []api.Action{drop("a/b"), drop("a/c"), put("a", "2")}},
		{of("a", "1"), list(gone("a", 1, 0), has("a/b", "1", 1, 0)), []api.Action{drop("a"), put("a/b", "1")}},
	} {
		plans(t, c.files, c.l, c.want, api.OK)
		if got, err := mustPlan(c.files, c.l); !slices.Equal(got, c.want) || err != api.OK {
			t.Errorf("the other way tells otherwise of %v and %v", c.files, c.l)
		}
	}
}

// scanned is the archive of a tree that author 0 alone made.
func scanned(t []api.File) []api.Entry {
	l, _, _ := scan.Scan(nil, t, 0)
	return l
}

// done is the tree that a plan makes of another one, and whether each of its steps went well.
func done(t []api.File, plan []api.Action) ([]api.File, bool) {
	for _, a := range plan {
		next, err := tree.Drop(t, a.Path)
		if a.Put {
			next, err = tree.Put(t, a.Path, a.Data)
		}
		if err != api.OK {
			return nil, false
		}
		t = next
	}
	return t, true
}

// P10.2: of all that a tree and an archive may have at three paths, and of all those of these tests: against the other way; and it leads there, step by step.
func TestPlanLeadsThere(t *testing.T) {
	ask := func(files []api.File, l []api.Entry) {
		t.Helper()
		want, err := mustPlan(files, l)
		plans(t, files, l, want, err)
		if got, fine := done(files, want); err == api.OK && (!fine || !slices.Equal(got, scan.Tree(l))) {
			t.Fatalf("Plan of %v and %v leads to %v", files, l, got)
		}
	}
	for _, paths := range [][]string{{"a", "b", "c"}, {"a", "a.b", "a/b"}, {"a", "a/b", "a/b/c"}} {
		each(paths, list(gone("", 1, 1), has("", "", 1, 0), has("", "1", 1, 0), has("", "2", 0, 1)), func(mine, theirs []api.Entry) {
			ask(filesOf(mine), theirs)
		})
	}
	for _, files := range slices.Concat(trees(), noTrees()) {
		for _, l := range rights() {
			ask(files, l)
		}
	}
}

// P10.2: ErrArg at a tree that is not right, whatever the archive is.
func TestPlanWrongTrees(t *testing.T) {
	for _, files := range noTrees() {
		for _, l := range rights() {
			plans(t, files, l, nil, api.ErrArg)
		}
	}
}

// P10.3: what is settled, written out.
func TestSettle(t *testing.T) {
	mine := list(has("a", "0", 1, 0), has("b", "1", 2, 0), gone("c", 1, 0), has("e", "3", 1, 1))
	theirs := list(has("b", "2", 1, 1), has("c", "4", 1, 1), has("d", "5", 0, 1), gone("e", 0, 2), has("f", "6", 0, 1))
	for _, c := range []struct {
		path   string
		take   bool
		author int
		place  int
		want   api.Entry
	}{
		{"b", true, 0, 1, has("b", "2", 3, 1)},
		{"b", true, 1, 1, has("b", "2", 2, 2)},
		{"b", false, 0, 1, has("b", "1", 3, 1)},
		{"b", false, 1, 1, has("b", "1", 2, 2)},
		{"e", true, 0, 3, gone("e", 2, 2)},
		{"e", true, 1, 3, gone("e", 1, 3)},
		{"e", false, 0, 3, has("e", "3", 2, 2)},
		{"e", false, 1, 3, has("e", "3", 1, 3)},
	} {
		want := slices.Clone(mine)
		want[c.place] = c.want
		settles(t, mine, theirs, c.path, c.take, c.author, want, api.OK)
	}
	// All else of mine is as it was: what theirs alone has, or has later, is not taken with it.
	for _, p := range []string{"a", "c", "d", "f", "g", "", "A", "b/", "/b", "B", bytes(1 << 16)} {
		for author := range 2 {
			settles(t, mine, theirs, p, author == 0, author, nil, api.ErrNone)
		}
	}
	settles(t, nil, nil, "a", true, 0, nil, api.ErrNone)
	settles(t, list(gone("a", 1, 0)), list(has("a", "", 0, 1)), "a", true, 1, list(has("a", "", 1, 2)), api.OK)
	settles(t, list(gone("a", 1, 0)), list(has("a", "", 0, 1)), "a", false, 1, list(gone("a", 1, 2)), api.OK)
	settles(t, list(has("a", "1", 5, 5)), list(has("a", "2", 5, 5)), "a", true, 0, list(has("a", "2", 6, 5)), api.OK)
}

// P10.3: of all that two archives may know of two paths, and at all of them: against the other way.
func TestSettleOfTwoPaths(t *testing.T) {
	ended := map[api.Errno]int{}
	for _, paths := range [][]string{{"a", "b"}, {"a", "a/b"}} {
		each(paths, small(), func(mine, theirs []api.Entry) {
			for k, p := range []string{paths[0], paths[1], paths[0], paths[1]} {
				for author := range 2 {
					want, err := mustSettle(mine, theirs, p, k < 2, author)
					settles(t, mine, theirs, p, k < 2, author, want, err)
					ended[err]++
				}
			}
		})
	}
	if ended[api.OK] < 999 || ended[api.ErrNone] < 999 || ended[api.ErrArg] < 999 || ended[api.ErrName] < 999 {
		t.Error("too few of a kind:", ended)
	}
}

// P10.3: even authors are author 0, odd ones author 1; at MaxCount of author in either Clock it is ErrFull, at the other author's it is not.
func TestSettleByAuthors(t *testing.T) {
	full := 0
	for _, c := range clocks() {
		for _, d := range clocks() {
			mine := list(gone("-", 1, 0), api.Entry{Path: "a", Has: true, Data: "1", Clock: c}, has("z", "", 1, 0))
			theirs := list(api.Entry{Path: "a", Has: true, Data: "2", Clock: d})
			for which, numbers := range authors() {
				for _, author := range numbers {
					for _, take := range []bool{true, false} {
						want, err := mustSettle(mine, theirs, "a", take, which)
						settles(t, mine, theirs, "a", take, author, want, err)
						if err == api.ErrFull {
							full++
						}
					}
				}
			}
		}
	}
	if full == 0 {
		t.Error("no Clock was full")
	}
	mine, theirs := list(has("a", "1", most, 1)), list(has("a", "2", 3, 2))
	for _, take := range []bool{true, false} {
		settles(t, mine, theirs, "a", take, 0, nil, api.ErrFull)
		settles(t, theirs, mine, "a", take, 0, nil, api.ErrFull)
	}
	settles(t, mine, theirs, "a", true, 1, list(has("a", "2", most, 3)), api.OK)
	settles(t, theirs, mine, "a", true, 1, list(has("a", "1", most, 3)), api.OK)
	settles(t, list(has("a", "1", most-1, 1)), theirs, "a", false, 0, list(has("a", "1", most, 2)), api.OK)
}

// P10.3: what is taken may come to one file too many, or to a Clash.
func TestSettleThatDoesNotFit(t *testing.T) {
	for _, n := range []int{15, 16} {
		mine, theirs := slices.Concat(list(gone("a", 1, 0)), full(0, n, 0)), list(has("a", "1", 0, 1))
		if n == 15 {
			want := slices.Clone(mine)
			want[0] = has("a", "1", 2, 1)
			settles(t, mine, theirs, "a", true, 0, want, api.OK)
		} else {
			settles(t, mine, theirs, "a", true, 0, nil, api.ErrFull)
		}
		want := slices.Clone(mine)
		want[0] = gone("a", 2, 1)
		settles(t, mine, theirs, "a", false, 0, want, api.OK)
	}
	for _, a := range some() {
		for _, b := range some() {
			if a == b {
				continue
			}
			mine, theirs := list(has(a, "1", 1, 0), gone(b, 1, 0)), list(has(b, "2", 0, 1))
			slices.SortFunc(mine, func(x, y api.Entry) int { return strings.Compare(x.Path, y.Path) })
			got, err := recon.Settle(mine, theirs, b, true, 1)
			if (err == api.ErrName) != clash(a, b) || err != api.OK && len(got) != 0 {
				t.Errorf("a file at %s, and one taken at %s: %v, %v", a, b, got, err)
			}
			if _, err := recon.Settle(mine, theirs, b, false, 1); err != api.OK {
				t.Errorf("a file at %s, and none taken at %s: %v", a, b, err)
			}
		}
	}
	// What theirs alone has does not count: it is mine that is settled.
	mine, theirs := slices.Concat(list(gone("a", 1, 0)), full(0, 15, 0)), list(has("a", "1", 0, 1), has("b", "1", 0, 1))
	want := slices.Clone(mine)
	want[0] = has("a", "1", 1, 2)
	settles(t, mine, theirs, "a", true, 1, want, api.OK)
	mine, theirs = list(gone("a", 1, 0), gone("b", 1, 0)), list(has("a", "1", 0, 1), has("b", "1", 2, 1))
	settles(t, mine, theirs, "a", true, 1, list(has("a", "1", 1, 2), gone("b", 1, 0)), api.OK)
}

// W4, P10.3: the error of Merge ahead of ErrNone, that one ahead of ErrFull, and ErrFull ahead of ErrName.
func TestSettleSeveralErrors(t *testing.T) {
	// Merge is full, and nothing is a conflict; or something is.
	settles(t, full(0, 16, 0), full(16, 1, 1), "x", true, 0, nil, api.ErrFull)
	settles(t, list(has("a", "1", 1, 0)), list(has("a/b", "1", 0, 1)), "x", true, 0, nil, api.ErrName)
	settles(t, list(has("a", "1", most, 0), has("b", "", 1, 0)), list(has("a", "2", 0, 1), has("b/c", "1", 0, 1)), "a", true, 0, nil, api.ErrName)
	settles(t, list(has("a", "1", most, 0)), list(has("a", "2", 0, 1)), "b", true, 0, nil, api.ErrNone)
	// A Clock that is full, and files that Clash.
	mine, theirs := list(gone("a", most, 0), has("a/b", "1", 1, 0)), list(has("a", "2", 0, 1))
	settles(t, mine, theirs, "a", true, 0, nil, api.ErrFull)
	settles(t, mine, theirs, "a", true, 1, nil, api.ErrName)
	// Too many files, which Clash.
	mine, theirs = slices.Concat(list(gone("d", 1, 0)), full(0, 16, 0)), list(has("d", "2", 0, 1))
	settles(t, mine, theirs, "d", true, 0, nil, api.ErrFull)
	settles(t, mine[:16], theirs, "d", true, 0, nil, api.ErrName)
}

// P10.4: at a path that both have, alike and not, that one has, and that none has.
func TestAgree(t *testing.T) {
	l := list(has("a", "1", 1, 0), gone("b", 1, 2), has("d", "", 3, 4))
	for _, c := range []struct {
		a, b []api.Entry
		path string
		want bool
	}{
		{nil, nil, "a", true},
		{nil, list(), "", true},
		{l, l, "a", true},
		{l, l, "b", true},
		{l, l, "c", true},
		{l, l, "d", true},
		{l, l, "", true},
		{l, l, "A", true},
		{l, l, "a/", true},
		{l, l, bytes(1 << 16), true},
		{l, nil, "a", false},
		{nil, l, "a", false},
		{l, nil, "b", false},
		{nil, l, "b", false},
		{l, nil, "c", true},
		{nil, l, "c", true},
		{l, list(has("a", "1", 1, 0)), "a", true},
		{l, list(gone("-", 1, 0), has("a", "1", 1, 0)), "a", true},
		{l, list(has("a", "2", 1, 0)), "a", false},
		{l, list(has("a", "", 1, 0)), "a", false},
		{l, list(gone("a", 1, 0)), "a", false},
		{l, list(has("a", "1", 2, 0)), "a", false},
		{l, list(has("a", "1", 1, 1)), "a", false},
		{l, list(has("a", "1", 0, 1)), "a", false},
		{l, list(gone("b", 1, 2)), "b", true},
		{l, list(gone("b", 2, 1)), "b", false},
		{l, list(has("b", "", 1, 2)), "b", false},
		{l, list(gone("d", 3, 4)), "d", false},
		{l, list(gone("c", 3, 4)), "d", false},
		{l, list(gone("c", 3, 4)), "c", false},
		{l, list(has("d", "", 3, 4), gone("e", 1, 0)), "d", true},
	} {
		if got := recon.Agree(c.a, c.b, c.path); got != c.want {
			t.Errorf("Agree(%v, %v, %.20q) = %v", c.a, c.b, c.path, got)
		}
		if got := recon.Agree(c.b, c.a, c.path); got != c.want {
			t.Errorf("Agree(%v, %v, %.20q) = %v", c.b, c.a, c.path, got)
		}
	}
	for _, a := range rights() {
		for _, b := range rights() {
			for _, p := range slices.Concat(some(), []string{at(0), at(15), at(16), at(31), "", "zz"}) {
				x, isX := byPath(a)[p]
				y, isY := byPath(b)[p]
				if got := recon.Agree(a, b, p); got != (isX == isY && x == y) {
					t.Errorf("Agree(%.100v, %.100v, %q) = %v", a, b, p, got)
				}
			}
		}
	}
}

// room is l with spare room behind it, in which something stands.
func room[T any](l []T, behind ...T) []T {
	return append(slices.Clone(l), behind...)[:len(l)]
}

// P10.5: what is handed in stays as it is, its spare room too, whatever is told.
func TestArgumentsStay(t *testing.T) {
	all := slices.Concat(rights(), wrong()[:17])
	for _, l := range all {
		for _, m := range all {
			x, y := room(l, gone("z", 1, 0), has("a", "1", 0, 0)), room(m, gone("zz", 1, 0), has("a", "1", 0, 0))
			x, y = x[:len(l)+2], y[:len(m)+2]
			wantX, wantY := slices.Clone(x), slices.Clone(y)
			recon.Merge(x[:len(l)], y[:len(m)])
			for _, p := range []string{"a", "b", at(0)} {
				recon.Settle(x[:len(l)], y[:len(m)], p, true, 0)
				recon.Settle(x[:len(l)], y[:len(m)], p, false, 1)
				recon.Agree(x[:len(l)], y[:len(m)], p)
			}
			if !slices.Equal(x, wantX) || !slices.Equal(y, wantY) {
				t.Fatalf("%.200v and %.200v became %.200v and %.200v", wantX, wantY, x, y)
			}
		}
		for _, f := range slices.Concat(trees(), noTrees()[:8]) {
			x, y := room(l, gone("z", 1, 0)), room(f, of("z", "", "A", "")...)
			x, y = x[:len(l)+1], y[:len(f)+2]
			wantX, wantY := slices.Clone(x), slices.Clone(y)
			recon.Plan(y[:len(f)], x[:len(l)])
			if !slices.Equal(x, wantX) || !slices.Equal(y, wantY) {
				t.Fatalf("%.200v and %.200v became %.200v and %.200v", wantX, wantY, x, y)
			}
		}
	}
}

// spoil writes over all of l, and its spare room.
func spoil[T any](l []T, with T) {
	l = l[:cap(l)]
	for i := range l {
		l[i] = with
	}
}

// P10.5: who changes what was handed in, or answered, changes nothing else.
func TestAnswersApart(t *testing.T) {
	bad, badFile := has("spoilt", "spoilt", 7, 7), api.File{Path: "spoilt", Data: "spoilt"}
	for _, l := range rights() {
		for _, m := range rights() {
			x, y := room(l, bad), room(m, bad)
			want := must(l, m)
			one, two := merged(x, y), merged(x, y)
			settled, err := recon.Settle(x, y, "a", true, 0)
			other, _ := recon.Settle(x, y, "a", true, 0)
			spoil(two.l, bad)
			spoil(two.conflicts, "spoilt")
			spoil(other, bad)
			if !slices.Equal(x, l) || !slices.Equal(y, m) {
				t.Fatalf("an answer that is changed changes %.200v or %.200v", l, m)
			}
			spoil(x, bad)
			spoil(y, bad)
			wantSettled, wantErr := mustSettle(l, m, "a", true, 0)
			if !one.same(want) || !slices.Equal(settled, wantSettled) || err != wantErr {
				t.Fatalf("of %.200v and %.200v: what is changed changes an answer", l, m)
			}
			spoil(one.l, bad)
			if !slices.Equal(one.conflicts, want.conflicts) || !merged(l, m).same(want) {
				t.Fatalf("of %.200v and %.200v: something is shared, or kept", l, m)
			}
		}
		for _, f := range trees() {
			x, y := room(l, bad), room(f, badFile)
			one, _ := recon.Plan(y, x)
			two, _ := recon.Plan(y, x)
			spoil(two, put("spoilt", "spoilt"))
			if !slices.Equal(x, l) || !slices.Equal(y, f) {
				t.Fatalf("a plan that is changed changes %.200v or %.200v", l, f)
			}
			spoil(x, bad)
			spoil(y, badFile)
			if want, _ := mustPlan(f, l); !slices.Equal(one, want) {
				t.Fatalf("of %.200v and %.200v: what is changed changes a plan", l, f)
			}
		}
	}
}

// shares tells whether two strings have bytes in the same place.
func shares(a, b string) bool {
	if a == "" || b == "" {
		return false
	}
	p, q := uintptr(unsafe.Pointer(unsafe.StringData(a))), uintptr(unsafe.Pointer(unsafe.StringData(b)))
	return p < q+uintptr(len(b)) && q < p+uintptr(len(a))
}

// fresh tells where strings share bytes with each other, or with those that were given.
func fresh(t *testing.T, what string, given, l []string) {
	t.Helper()
	for i, a := range l {
		for _, b := range slices.Concat(given, l[:i]) {
			if shares(a, b) {
				t.Errorf("%s: %.40q is of old memory", what, a)
			}
		}
	}
}

// P10.5: strings that are answered are of new memory, too, those of both lists of one answer as well.
func TestStringsNew(t *testing.T) {
	entries := func(l []api.Entry) []string {
		var all []string
		for _, e := range l {
			all = append(all, e.Path, e.Data)
		}
		return all
	}
	for _, l := range rights() {
		for _, m := range rights() {
			one, two := merged(l, m), merged(l, m)
			got := slices.Concat(entries(one.l), one.conflicts, entries(two.l), two.conflicts)
			for _, take := range []bool{true, false} {
				settled, _ := recon.Settle(l, m, "a", take, 0)
				got = append(got, entries(settled)...)
			}
			fresh(t, "Merge and Settle", slices.Concat(entries(l), entries(m)), got)
		}
		for _, f := range trees() {
			var given, got []string
			for _, g := range f {
				given = append(given, g.Path, g.Data)
			}
			for range 2 {
				plan, _ := recon.Plan(f, l)
				for _, a := range plan {
					got = append(got, a.Path, a.Data)
				}
			}
			fresh(t, "Plan", slices.Concat(given, entries(l)), got)
		}
	}
}

// change makes some changes to a tree, at random.
func change(r *rand.Rand, t []api.File, paths []string) []api.File {
	for range r.Intn(4) {
		next, err := tree.Put(t, paths[r.Intn(len(paths))], string(rune('0'+r.Intn(3))))
		if len(t) > 0 && r.Intn(3) == 0 {
			next, err = tree.Drop(t, t[r.Intn(len(t))].Path)
		}
		if err == api.OK {
			t = next
		}
	}
	return t
}

// value is an entry's value.
func value(e api.Entry) api.Entry { return api.Entry{Has: e.Has, Data: e.Data} }

// P10.6: a path that one side alone changed has that side's value, one that both changed, unlike, has mine's, and is a conflict, one that both changed alike has that value, and nothing else changes.
func TestChangesOfBoth(t *testing.T) {
	r := rand.New(rand.NewSource(10))
	kinds := map[string]int{}
	for range 20000 {
		paths := some()
		if r.Intn(2) == 0 {
			paths = []string{"a", "b", "c", "d", "e"}
		}
		base := scanned(change(r, change(r, nil, paths), paths))
		mine, mineDid, _ := scan.Scan(base, change(r, scan.Tree(base), paths), 0)
		theirs, theyDid, _ := scan.Scan(base, change(r, scan.Tree(base), paths), 1)
		got := merged(mine, theirs)
		if got.err != api.OK {
			kinds[got.err.Error()]++
			continue
		}
		was, own, other := byPath(base), byPath(mine), byPath(theirs)
		for _, e := range got.l {
			p := e.Path
			i, they := slices.Contains(mineDid, p), slices.Contains(theyDid, p)
			want, kind := was[p], "none"
			switch {
			case i && they && value(own[p]) != value(other[p]):
				want, kind = own[p], "conflict"
			case i:
				want, kind = own[p], "mine"
			case they:
				want, kind = other[p], "theirs"
			}
			kinds[kind]++
			if value(e) != value(want) || slices.Contains(got.conflicts, p) != (kind == "conflict") || kind == "none" && e != want {
				t.Fatalf("of %v, %v and %v: %v", base, mine, theirs, got)
			}
		}
	}
	for _, k := range []string{"none", "mine", "theirs", "conflict", api.ErrName.Error()} {
		if kinds[k] < 100 {
			t.Error("too few of a kind:", kinds)
		}
	}
}

// follows tells where what is merged is not as P10.6 and P10.7 say, whoever is mine.
func follows(t *testing.T, mine, theirs []api.Entry) {
	t.Helper()
	one, two := merged(mine, theirs), merged(theirs, mine)
	if one.err != api.OK {
		return
	}
	if !scan.Right(one.l) {
		t.Fatalf("Merge of %v and %v is no archive: %v", mine, theirs, one)
	}
	if two.err == api.OK {
		if !slices.Equal(one.conflicts, two.conflicts) || len(one.l) != len(two.l) {
			t.Fatalf("Merge of %v and %v: %v one way, %v the other way", mine, theirs, one, two)
		}
		for i, e := range one.l {
			if conflict := slices.Contains(one.conflicts, e.Path); !conflict && (e != two.l[i] || !recon.Agree(one.l, two.l, e.Path)) {
				t.Fatalf("Merge of %v and %v: %v one way, %v the other way", mine, theirs, one, two)
			}
		}
	}
	// What is merged has all that mine and theirs know, so merging it with either changes nothing; conflicts stay.
	merges(t, one.l, theirs, one)
	merges(t, one.l, mine, told{l: one.l})
	merges(t, one.l, one.l, told{l: one.l})
	for _, p := range one.conflicts {
		for author := range 2 {
			settled, err := recon.Settle(mine, theirs, p, author == 0, author)
			if err != api.OK {
				continue
			}
			if next := merged(settled, theirs); next.err == api.OK && slices.Contains(next.conflicts, p) {
				t.Fatalf("of %v and %v: %s is settled, and a conflict", mine, theirs, p)
			}
			if next := merged(theirs, settled); next.err == api.OK && (slices.Contains(next.conflicts, p) || byPath(next.l)[p] != byPath(settled)[p]) {
				t.Fatalf("of %v and %v: %s is settled, and they do not take it", theirs, mine, p)
			}
			if _, err := recon.Settle(settled, theirs, p, true, author); err == api.OK {
				t.Fatalf("of %v and %v: %s is settled twice", mine, theirs, p)
			}
		}
	}
}

// P10.6, P10.7: of all that two archives may know of two paths, and of all those of these tests.
func TestFollows(t *testing.T) {
	for _, paths := range [][]string{{"a", "b"}, {"a", "a/b"}} {
		each(paths, small(), func(mine, theirs []api.Entry) { follows(t, mine, theirs) })
	}
	for _, l := range rights() {
		for _, m := range rights() {
			merges(t, l, m, must(l, m))
			follows(t, l, m)
		}
	}
}

// read makes two archives and a tree of bytes, right ones often, and wrong ones too.
func read(b []byte) ([]api.Entry, []api.Entry, []api.File) {
	counts := []int{1, 0, 2, most, most - 1, -1}
	var l [2][]api.Entry
	for len(b) >= 3 {
		p := at(int(b[0] % 36))
		if b[0] >= 180 {
			p = some()[int(b[0])%len(some())]
		}
		e := gone(p, counts[b[2]%6], counts[b[2]/6%6])
		if b[1]&2 == 0 {
			e.Has, e.Data = true, []string{"", "1", "2", bytes(600), bytes(601)}[b[1]>>2%5]
		}
		l[b[1]&1] = append(l[b[1]&1], e)
		b = b[3:]
	}
	for i := range l {
		if len(l[i])%9 > 0 {
			slices.SortFunc(l[i], func(x, y api.Entry) int { return strings.Compare(x.Path, y.Path) })
			l[i] = slices.CompactFunc(l[i], func(x, y api.Entry) bool { return x.Path == y.Path })
		}
	}
	return l[0], l[1], filesOf(l[1])
}

// FuzzMerges holds all calls against the other ways, at any archives, path and author.
func FuzzMerges(f *testing.F) {
	f.Add([]byte{}, "", false, 0)
	f.Add([]byte{180, 0, 0, 180, 5, 1}, "a", true, 1)
	f.Add([]byte{180, 2, 0, 181, 5, 6, 180, 5, 1, 183, 1, 1}, "a/b", true, -1)
	f.Add(slices.Repeat([]byte{7, 2, 0, 13, 1, 1, 35, 4, 0}, 7), at(7), false, api.MinInt)
	f.Fuzz(func(t *testing.T, b []byte, path string, take bool, author int) {
		mine, theirs, files := read(b[:min(len(b), 300)])
		want := must(mine, theirs)
		merges(t, mine, theirs, want)
		follows(t, mine, theirs)
		plan, err := mustPlan(files, mine)
		plans(t, files, mine, plan, err)
		for _, p := range append(want.conflicts, path) {
			settled, err := mustSettle(mine, theirs, p, take, author)
			settles(t, mine, theirs, p, take, author, settled, err)
		}
	})
}
