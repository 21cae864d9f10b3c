package act_test

import (
	"fmt"
	"maps"
	"math/rand"
	"regexp"
	"slices"
	"strings"
	"testing"
	"unsafe"

	"carpetbag/act"
	"carpetbag/api"
	"carpetbag/recon"
	"carpetbag/scan"
	"carpetbag/tree"
)

// of is the files of those paths and data, in turn.
func of(l ...string) []api.File {
	var t []api.File
	for i := 0; i < len(l); i += 2 {
		t = append(t, api.File{Path: l[i], Data: l[i+1]})
	}
	return t
}

// put and drop are actions, list has some of them.
func put(path, data string) api.Action    { return api.Action{Path: path, Put: true, Data: data} }
func drop(path string) api.Action         { return api.Action{Path: path} }
func list(l ...api.Action) []api.Action   { return l }
func both(l ...[]api.Action) []api.Action { return slices.Concat(l...) }

// bytes is a string of n bytes.
func bytes(n int) string { return strings.Repeat("x", n) }

// at is the i-th of many rising paths, none of which is Under another one.
func at(i int) string { return fmt.Sprintf("d/%c/%c", 'a'+i/8, 'a'+i%8) }

// rows is n files, from a place on.
func rows(from, n int) []api.File {
	var t []api.File
	for i := range n {
		t = append(t, api.File{Path: at(from + i), Data: "f"})
	}
	return t
}

// puts has those files put, drops has them dropped.
func puts(t []api.File) []api.Action {
	var l []api.Action
	for _, f := range t {
		l = append(l, put(f.Path, f.Data))
	}
	return l
}

func drops(t []api.File) []api.Action {
	var l []api.Action
	for _, f := range t {
		l = append(l, drop(f.Path))
	}
	return l
}

// some are paths that lie every way to each other.
func some() []string {
	return []string{"a", "a-", "a.b", "a/b", "a/b.c", "a/b/c", "a/b/c/d", "ab", "b", "b/a"}
}

// noPaths are strings that are none.
func noPaths() []string {
	return []string{
		"", ".", "..", "/", "A", "a b", "/a", "a/", "a//b", "a/.", "a/b/c/d/", "a/b/c/d/e", "a\x00", "\xff", "abcdefghijklm", bytes(1 << 16),
	}
}

// wrong are trees that are not right.
func wrong() [][]api.File {
	all := [][]api.File{
		of("b", "", "a", ""),
		of("a", "", "a", ""),
		of("a", "1", "a", "2"),
		of("a", "", "a/b", ""),
		of("a", "", "a.b", "", "a/b", ""),
		of("a/b", "", "a/b/c/d", ""),
		of("a", bytes(601)),
		of("a", bytes(600), "b", bytes(601)),
		rows(0, 17),
		make([]api.File, 1),
		make([]api.File, 1<<16),
	}
	for _, s := range noPaths() {
		all = append(all, of(s, ""), of("-", "", s, ""), of(s, "", "z", ""))
	}
	return all
}

// rights are trees that are.
func rights() [][]api.File {
	return [][]api.File{
		nil,
		{},
		of("a", ""),
		of("a", "1"),
		of("b", "1"),
		of("a", "22", "b", "1"),
		of("a/b", "1"),
		of("a/b/c", "1"),
		of("a", "1", "a.b", "2"),
		of("a", bytes(600), "b", bytes(600), "c", bytes(599)),
		rows(0, 15), rows(0, 16), rows(1, 16), rows(8, 8),
	}
}

// plans are actions that can be done to some of these trees, and some that can be done to none.
func plans() [][]api.Action {
	all := [][]api.Action{
		nil,
		{},
		list(drop("a")),
		list(drop("b")),
		list(put("a", "")),
		list(put("a", "new")),
		list(put("a/b", "new")),
		list(put("b", bytes(600))),
		list(put("b", bytes(601))),
		list(drop("a"), put("a/b", "2")),
		list(put("a/b", "2"), drop("a")),
		list(drop("a/b"), put("a", "3")),
		list(drop("a"), put("a", "4")),
		list(put("a", "5"), drop("a")),
		list(put("a", "6"), put("a", "7")),
		list(put("c", "1"), put("a", "2"), drop("b"), put("c", "3")),
		list(api.Action{Path: "a", Data: "of what is dropped"}, put("b", "1")),
		puts(rows(0, 16)), puts(rows(0, 17)), puts(rows(8, 8)), drops(rows(0, 16)), drops(rows(8, 8)),
		both(drops(rows(0, 8)), puts(rows(16, 8))),
	}
	for _, s := range noPaths() {
		all = append(all, list(put(s, "1")), list(drop(s)), list(put("b", "1"), put(s, "2"), put("c", "3")))
	}
	return all
}

var name = regexp.MustCompile(`^[a-z0-9.-]{1,12}$`)

// isPath tells by another way what a path is.
func isPath(s string) bool {
	names := strings.Split(s, "/")
	for _, n := range names {
		if !name.MatchString(n) || n == "." || n == ".." {
			return false
		}
	}
	return len(names) <= 4
}

// clash tells by another way which paths do.
func clash(a, b string) bool {
	return strings.HasPrefix(a, b+"/") || strings.HasPrefix(b, a+"/")
}

// isTree tells by another way what a right tree is.
func isTree(t []api.File) bool {
	if len(t) > 16 {
		return false
	}
	for i, f := range t {
		if !isPath(f.Path) || len(f.Data) > 600 {
			return false
		}
		for _, g := range t[:i] {
			if f.Path <= g.Path || clash(f.Path, g.Path) {
				return false
			}
		}
	}
	return true
}

// model is a tree as a map.
type model map[string]string

func modelOf(t []api.File) model {
	m := model{}
	for _, f := range t {
		m[f.Path] = f.Data
	}
	return m
}

func (m model) files() []api.File {
	var t []api.File
	for _, p := range slices.Sorted(maps.Keys(m)) {
		t = append(t, api.File{Path: p, Data: m[p]})
	}
	return t
}

// does an action, or tells why it can't.
func (m model) does(a api.Action) api.Errno {
	_, there := m[a.Path]
	if !a.Put {
		if !there {
			return api.ErrNone
		}
		delete(m, a.Path)
		return api.OK
	}
	if !isPath(a.Path) {
		return api.ErrName
	}
	for p := range m {
		if clash(p, a.Path) {
			return api.ErrName
		}
	}
	if len(a.Data) > 600 || !there && len(m) == 16 {
		return api.ErrFull
	}
	m[a.Path] = a.Data
	return api.OK
}

// mustDo tells by another way what Do answers.
func mustDo(t []api.File, l []api.Action, room int) ([]api.File, api.Errno) {
	if !isTree(t) {
		return nil, api.ErrArg
	}
	m := modelOf(t)
	for _, a := range l {
		if err := m.does(a); err != api.OK {
			return nil, err
		}
	}
	left := room
	for _, data := range m {
		if left < len(data) {
			return nil, api.ErrFull
		}
		left -= len(data)
	}
	if room < 0 {
		return nil, api.ErrFull
	}
	return m.files(), api.OK
}

// mustPaths, mustNet and mustUndo tell by another way what those calls answer.
func mustPaths(l []api.Action) []string {
	all := map[string]int{}
	for _, a := range l {
		all[a.Path]++
	}
	return slices.Sorted(maps.Keys(all))
}

func mustNet(l []api.Action) []api.Action {
	var net []api.Action
	for i, a := range l {
		if !slices.ContainsFunc(l[i+1:], func(b api.Action) bool { return b.Path == a.Path }) {
			net = append(net, a)
		}
	}
	slices.SortFunc(net, func(a, b api.Action) int {
		switch {
		case a.Put == b.Put:
			return strings.Compare(a.Path, b.Path)
		case b.Put:
			return -1
		}
		return 1
	})
	return net
}

func mustUndo(t []api.File, l []api.Action) []api.Action {
	if !isTree(t) {
		return nil
	}
	m := modelOf(t)
	var out, in []api.Action
	for _, p := range mustPaths(l) {
		if data, there := m[p]; there {
			in = append(in, put(p, data))
		} else {
			out = append(out, drop(p))
		}
	}
	return both(out, in)
}

// brief is what a message has of a list, however long that is.
func brief[T any](l []T) string {
	s := fmt.Sprintf("%.40v", l[:min(len(l), 9)])
	if len(l) > 9 {
		s += fmt.Sprint(" and ", len(l)-9, " more")
	}
	return s
}

// does tells where Do answers otherwise than it must.
func does(t *testing.T, x []api.File, l []api.Action, room int, want []api.File, err api.Errno) {
	t.Helper()
	if got, e := act.Do(x, l, room); !slices.Equal(got, want) || e != err {
		t.Errorf("Do(%s, %s, %d) = %s, %v, not %s, %v", brief(x), brief(l), room, brief(got), e, brief(want), err)
	}
}

// undoes tells where Undo does, nets where Net does.
func undoes(t *testing.T, x []api.File, l, want []api.Action) {
	t.Helper()
	if got := act.Undo(x, l); !slices.Equal(got, want) {
		t.Errorf("Undo(%s, %s) = %s, not %s", brief(x), brief(l), brief(got), brief(want))
	}
}

func nets(t *testing.T, l []api.Action, paths []string, want []api.Action) {
	t.Helper()
	if got := act.Paths(l); !slices.Equal(got, paths) {
		t.Errorf("Paths(%s) = %s, not %s", brief(l), brief(got), brief(paths))
	}
	if got := act.Net(l); !slices.Equal(got, want) {
		t.Errorf("Net(%s) = %s, not %s", brief(l), brief(got), brief(want))
	}
}

// P11.1: what is done, in order: the document's examples, and ordinary ones.
func TestDo(t *testing.T) {
	for _, c := range []struct {
		t    []api.File
		l    []api.Action
		want []api.File
	}{
		{of("a", "1"), list(drop("a"), put("a/b", "2")), of("a/b", "2")},
		{of("a/b", "1"), list(drop("a/b"), put("a", "2")), of("a", "2")},
		{of("a/b", "1", "a/c", "2"), list(drop("a/c"), drop("a/b"), put("a", "3")), of("a", "3")},
		{nil, list(put("a", "1")), of("a", "1")},
		{nil, list(put("b", "1"), put("a", "2")), of("a", "2", "b", "1")},
		{of("a", "1"), list(drop("a")), nil},
		{of("a", "1"), list(put("a", "")), of("a", "")},
		{of("a", "1"), list(put("a", "1")), of("a", "1")},
		{of("a", "1"), list(drop("a"), put("a", "2")), of("a", "2")},
		{of("a", "1"), list(put("a", "2"), put("a", "3")), of("a", "3")},
		{of("a", "1"), list(put("a", "3"), put("a", "2")), of("a", "2")},
		{of("a", "1"), list(put("a", "2"), drop("a")), nil},
		{nil, list(put("a", "2"), drop("a")), nil},
		{nil, list(put("a", "2"), drop("a"), put("a/b", "3"), drop("a/b"), put("a", "4")), of("a", "4")},
		{of("a", "1", "b", "2"), list(put("c", "3"), drop("a"), put("b", "4")), of("b", "4", "c", "3")},
		{of("a", "1"), list(put("a.b", "2"), put("a-", "3")), of("a", "1", "a-", "3", "a.b", "2")},
		{nil, list(put("a", bytes(600))), of("a", bytes(600))},
		{of("a", "1"), list(api.Action{Path: "a", Data: bytes(700)}), nil},
	} {
		does(t, c.t, c.l, 1000, c.want, api.OK)
		does(t, c.t, c.l, tree.Size(c.want), c.want, api.OK)
		does(t, c.t, c.l, tree.Size(c.want)-1, nil, api.ErrFull)
		does(t, c.t, c.l, api.MaxInt, c.want, api.OK)
		does(t, c.t, c.l, api.MinInt, nil, api.ErrFull)
	}
}

// P11.1: with no actions it is the tree, or ErrFull; ErrArg, if it is no right one, whatever there is room for.
func TestDoOfNoActions(t *testing.T) {
	rooms := []int{api.MinInt, -1, 0, 1, 1 << 12, api.MaxInt}
	for _, none := range [][]api.Action{nil, {}} {
		for _, x := range rights() {
			size := tree.Size(x)
			does(t, x, none, size, x, api.OK)
			does(t, x, none, size+1, x, api.OK)
			does(t, x, none, api.MaxInt, x, api.OK)
			does(t, x, none, size-1, nil, api.ErrFull)
			does(t, x, none, -1, nil, api.ErrFull)
			does(t, x, none, api.MinInt, nil, api.ErrFull)
		}
		for _, x := range wrong() {
			for _, room := range rooms {
				does(t, x, none, room, nil, api.ErrArg)
			}
		}
	}
}

// P11.1: of a tree that is not right ErrArg is told, whatever is done, though that would mend it.
func TestDoToWrongTrees(t *testing.T) {
	for _, x := range wrong() {
		for _, l := range append(plans(), list(drop(x[0].Path)), list(drop(x[len(x)-1].Path)), list(put(x[0].Path, ""))) {
			does(t, x, l, api.MaxInt, nil, api.ErrArg)
			does(t, x, l, -1, nil, api.ErrArg)
		}
	}
	does(t, of("a", "1", "a/b", "2"), list(drop("a/b")), 9, nil, api.ErrArg)
	does(t, rows(0, 17), list(drop(at(16))), 99, nil, api.ErrArg)
	does(t, of("a", bytes(601)), list(put("a", "")), 999, nil, api.ErrArg)
}

// P11.1: each size is held against each room, at the end alone.
func TestDoByRoom(t *testing.T) {
	for n := range 20 {
		for room := -3; room < 25; room++ {
			want, err := of("a", bytes(n)), api.OK
			if n > room {
				want, err = nil, api.ErrFull
			}
			does(t, nil, list(put("a", bytes(n))), room, want, err)
			does(t, of("a", bytes(n)), nil, room, want, err)
			does(t, of("a", bytes(20)), list(put("a", bytes(n))), room, want, err)
			// More in between, in one file and in two.
			does(t, of("a", "1"), list(put("a", bytes(600)), put("a", bytes(n))), room, want, err)
			does(t, of("a", "1"), list(put("b", bytes(600)), put("a", bytes(n)), drop("b")), room, want, err)
		}
	}
	// All that there may be.
	var most []api.File
	for i := range 16 {
		most = append(most, api.File{Path: at(i), Data: bytes(600)})
	}
	does(t, nil, puts(most), 9600, most, api.OK)
	does(t, nil, puts(most), 9599, nil, api.ErrFull)
	does(t, most, drops(most), 0, nil, api.OK)
	does(t, most, drops(most), -1, nil, api.ErrFull)
	does(t, most, drops(most[1:]), 600, most[:1], api.OK)
	does(t, most, drops(most[1:]), 599, nil, api.ErrFull)
}

// P11.1: MaxFiles files are fine, one more is not, in between, too.
func TestDoByFiles(t *testing.T) {
	for n := range 20 {
		want, err := rows(0, n), api.OK
		if n > 16 {
			want, err = nil, api.ErrFull
		}
		does(t, nil, puts(rows(0, n)), 99, want, err)
	}
	full := rows(0, 16)
	does(t, full, list(put("e", "1")), 99, nil, api.ErrFull)
	does(t, full, list(put("e", "1"), drop("e")), 99, nil, api.ErrFull)
	does(t, full, list(put("e", "1"), drop(at(0))), 99, nil, api.ErrFull)
	does(t, full, list(drop(at(0)), put("e", "1")), 99, slices.Concat(full[1:], of("e", "1")), api.OK)
	does(t, full, list(put(at(15), "new")), 99, slices.Concat(full[:15], of(at(15), "new")), api.OK)
	does(t, full[1:], list(put(at(0), "f")), 99, full, api.OK)
	does(t, full, both(drops(full), puts(rows(16, 16))), 99, rows(16, 16), api.OK)
	does(t, full, both(puts(rows(16, 16)), drops(full)), 99, nil, api.ErrFull)
}

// P11.1: each error of Put, and of Drop.
func TestDoErrors(t *testing.T) {
	x := of("a", "1", "b/c", "2")
	for _, c := range []struct {
		a   api.Action
		err api.Errno
	}{
		{put("a/b", "1"), api.ErrName},
		{put("a/b/c/d", "1"), api.ErrName},
		{put("b", "1"), api.ErrName},
		{put("b/c/d", "1"), api.ErrName},
		{put("d", bytes(601)), api.ErrFull},
		{put("a", bytes(601)), api.ErrFull},
		{put("a", bytes(1<<16)), api.ErrFull},
		{put("a/b", bytes(601)), api.ErrName},
		{put("", bytes(601)), api.ErrName},
		{drop("d"), api.ErrNone},
		{drop("b"), api.ErrNone},
		{drop("a/b"), api.ErrNone},
		{drop("a."), api.ErrNone},
		{drop("b/c/d"), api.ErrNone},
		{api.Action{Path: "d", Data: "1"}, api.ErrNone},
	} {
		errorAtEachPlace(t, x, c.a, c.err)
	}
	for _, s := range noPaths() {
		errorAtEachPlace(t, x, put(s, "1"), api.ErrName)
		errorAtEachPlace(t, x, drop(s), api.ErrNone)
	}
}

// errorAtEachPlace has a wrong action done first, in between, and last; what else is wrong behind it is not told, nor what there is room for.
func errorAtEachPlace(t *testing.T, x []api.File, a api.Action, err api.Errno) {
	t.Helper()
	fine := list(put("e", "1"), put("f", "2"), put("a", "3"), drop("f"))
	does(t, x, fine, 99, of("a", "3", "b/c", "2", "e", "1"), api.OK)
	for i := range len(fine) + 1 {
		l := slices.Insert(slices.Clone(fine), i, a)
		does(t, x, l, api.MaxInt, nil, err)
		does(t, x, l, -1, nil, err)
		for _, b := range list(put("", ""), drop("z"), put("e", bytes(601))) {
			does(t, x, append(slices.Clone(l), b), 99, nil, err)
		}
	}
}

// P11.1: a file in the way, that is dropped ahead, or behind, or not at all; one that an action ahead has put there, or dropped already.
func TestDoInTheWay(t *testing.T) {
	for _, a := range some() {
		for _, b := range some() {
			if !clash(a, b) {
				continue
			}
			x := of(a, "1")
			does(t, x, list(put(b, "2")), 9, nil, api.ErrName)
			does(t, x, list(put(b, "2"), drop(a)), 9, nil, api.ErrName)
			does(t, x, list(drop(a), put(b, "2")), 9, of(b, "2"), api.OK)
			does(t, nil, list(put(a, "1"), put(b, "2")), 9, nil, api.ErrName)
			does(t, nil, list(put(a, "1"), drop(a), put(b, "2")), 9, of(b, "2"), api.OK)
			does(t, x, list(drop(a), put(b, "2"), put(a, "3")), 9, nil, api.ErrName)
			does(t, x, list(drop(a), put(b, "2"), drop(b), put(a, "3")), 9, of(a, "3"), api.OK)
		}
		does(t, of(a, "1"), list(drop(a), drop(a)), 9, nil, api.ErrNone)
		does(t, of(a, "1"), list(drop(a), put(a, "2"), drop(a)), 9, nil, api.OK)
		does(t, nil, list(drop(a), put(a, "1")), 9, nil, api.ErrNone)
	}
}

// P11.2: Paths and Net of no actions, of few, and of one path many times.
func TestPathsAndNet(t *testing.T) {
	for _, c := range []struct {
		l     []api.Action
		paths []string
		net   []api.Action
	}{
		{nil, nil, nil},
		{list(), nil, nil},
		{list(drop("a")), []string{"a"}, list(drop("a"))},
		{list(put("a", "1")), []string{"a"}, list(put("a", "1"))},
		{list(put("a", "1"), put("b", "2")), []string{"a", "b"}, list(put("a", "1"), put("b", "2"))},
		{list(put("b", "1"), put("a", "2")), []string{"a", "b"}, list(put("a", "2"), put("b", "1"))},
		{list(drop("b"), drop("a")), []string{"a", "b"}, list(drop("a"), drop("b"))},
		{list(put("a", "1"), drop("b")), []string{"a", "b"}, list(drop("b"), put("a", "1"))},
		{list(drop("b"), put("a", "1")), []string{"a", "b"}, list(drop("b"), put("a", "1"))},
		{list(put("a", "1"), put("a", "2")), []string{"a"}, list(put("a", "2"))},
		{list(put("a", "2"), put("a", "1")), []string{"a"}, list(put("a", "1"))},
		{list(put("a", "1"), put("a", "")), []string{"a"}, list(put("a", ""))},
		{list(put("a", "1"), drop("a")), []string{"a"}, list(drop("a"))},
		{list(drop("a"), put("a", "1")), []string{"a"}, list(put("a", "1"))},
		{list(drop("a"), drop("a")), []string{"a"}, list(drop("a"))},
		{list(put("a", "1"), drop("b"), drop("a"), put("b", "2")), []string{"a", "b"}, list(drop("a"), put("b", "2"))},
		{list(put("z", "1"), put("c", "2"), drop("y"), drop("d")), []string{"c", "d", "y", "z"}, list(drop("d"), drop("y"), put("c", "2"), put("z", "1"))},
		{list(put("a/b", "1"), drop("a.b"), put("a", "2"), drop("ab")), []string{"a", "a.b", "a/b", "ab"}, list(drop("a.b"), drop("ab"), put("a", "2"), put("a/b", "1"))},
		{list(put("10", "1"), put("9", "2")), []string{"10", "9"}, list(put("10", "1"), put("9", "2"))},
		{slices.Repeat(list(put("a", "1"), drop("a")), 1000), []string{"a"}, list(drop("a"))},
		{slices.Repeat(list(drop("a"), put("a", bytes(600))), 1000), []string{"a"}, list(put("a", bytes(600)))},
		// What could not be done is told as it is.
		{list(put("B", "1"), put("", bytes(601)), drop("\xff"), drop("a//b")), []string{"", "B", "a//b", "\xff"}, list(drop("a//b"), drop("\xff"), put("", bytes(601)), put("B", "1"))},
		{list(put("a", "1"), api.Action{Path: "a", Data: "2"}), []string{"a"}, list(api.Action{Path: "a", Data: "2"})},
	} {
		nets(t, c.l, c.paths, c.net)
	}
}

// P11.2: of many actions, in any order.
func TestNetOfMany(t *testing.T) {
	r := rand.New(rand.NewSource(2))
	for n := range 300 {
		var l []api.Action
		for range n {
			p := some()[r.Intn(len(some()))] + []string{"", "/x", "-y"}[r.Intn(3)]
			l = append(l, api.Action{Path: p, Put: r.Intn(2) == 0, Data: string(rune('0' + r.Intn(10)))})
		}
		nets(t, l, mustPaths(l), mustNet(l))
	}
	// 1<<16 actions of as many paths, from the last on, each second one dropped, and all of it twice.
	var l, out, in []api.Action
	var paths []string
	for i := range 1 << 16 {
		p := fmt.Sprintf("a/%05d", i)
		paths = append(paths, p)
		if i%2 == 0 {
			out, l = append(out, drop(p)), append(l, drop(p))
		} else {
			in, l = append(in, put(p, "1")), append(l, put(p, "1"))
		}
	}
	slices.Reverse(l)
	nets(t, l, paths, both(out, in))
	nets(t, both(in, out, l), paths, both(out, in))
	nets(t, both(l, out, puts(of("a/00000", "2"))), paths, both(out[1:], puts(of("a/00000", "2")), in))
	x, back := of("a/00000", "3", "a/65535", "4"), []api.Action{}
	for _, p := range paths[1 : len(paths)-1] {
		back = append(back, drop(p))
	}
	undoes(t, x, l, both(back, puts(x)))
}

// P11.3: Undo of actions at paths that the tree has, has not, and of both.
func TestUndo(t *testing.T) {
	x := of("a", "1", "b", "", "d/e", "3")
	for _, c := range []struct {
		t       []api.File
		l, want []api.Action
	}{
		{x, nil, nil},
		{x, list(), nil},
		{nil, nil, nil},
		{nil, list(drop("a"), put("a/b", "2")), list(drop("a"), drop("a/b"))},
		{of("a", "1"), list(drop("a"), put("a/b", "22")), list(drop("a/b"), put("a", "1"))},
		{of("a/b", "1"), list(drop("a/b"), put("a", "22")), list(drop("a"), put("a/b", "1"))},
		{x, list(drop("a")), list(put("a", "1"))},
		{x, list(put("a", "1")), list(put("a", "1"))},
		{x, list(put("a", "2")), list(put("a", "1"))},
		{x, list(put("b", "2")), list(put("b", ""))},
		{x, list(drop("b")), list(put("b", ""))},
		{x, list(put("c", "2")), list(drop("c"))},
		{x, list(drop("c")), list(drop("c"))},
		{x, list(put("c", "2"), drop("c")), list(drop("c"))},
		{x, list(put("a", "2"), put("a", "3"), drop("a")), list(put("a", "1"))},
		{x, list(drop("d/e"), drop("a")), list(put("a", "1"), put("d/e", "3"))},
		{x, list(put("z", "1"), put("c", "2"), put("b", "4"), drop("a"), put("z", "5")), list(drop("c"), drop("z"), put("a", "1"), put("b", ""))},
		{x, list(drop("d/e"), put("d", "5")), list(drop("d"), put("d/e", "3"))},
		{x, list(put("d", "5"), put("d/e/f", "6"), put("d/e", bytes(601))), list(drop("d"), drop("d/e/f"), put("d/e", "3"))},
		{x, list(put("", "1"), drop("A"), put("a", "")), list(drop(""), drop("A"), put("a", "1"))},
		{x, list(api.Action{Path: "c", Data: "2"}, api.Action{Path: "a", Data: "2"}), list(drop("c"), put("a", "1"))},
		{rows(0, 16), both(drops(rows(0, 16)), puts(rows(16, 16))), both(drops(rows(16, 16)), puts(rows(0, 16)))},
		{rows(0, 16), slices.Repeat(puts(rows(8, 16)), 50), both(drops(rows(16, 8)), puts(rows(8, 8)))},
	} {
		undoes(t, c.t, c.l, c.want)
	}
	for _, x := range wrong() {
		for _, l := range append(plans(), puts(x), drops(x)) {
			undoes(t, x, l, nil)
		}
	}
}

// lead does those of l that can be done.
func lead(m model, l []api.Action) {
	for _, a := range l {
		m.does(a)
	}
}

// follows tells where what comes of a tree and actions is not as the promises say, by other ways, and by each other.
func follows(t *testing.T, x []api.File, l []api.Action, room int) {
	t.Helper()
	want, err := mustDo(x, l, room)
	does(t, x, l, room, want, err)
	nets(t, l, mustPaths(l), mustNet(l))
	back := mustUndo(x, l)
	undoes(t, x, l, back)
	nets(t, back, mustPaths(back), back)
	if !isTree(x) {
		return
	}
	// P11.3: whatever of l was done, from its beginning on, leads back; so does Do, where each drop has something to drop.
	m := modelOf(x)
	for i := range len(l) + 1 {
		n := maps.Clone(m)
		lead(n, back)
		if !slices.Equal(n.files(), x) {
			t.Errorf("of %s, when %d of %s are done, Undo leads to %s", brief(x), i, brief(l), brief(n.files()))
		}
		if i < len(l) && m.does(l[i]) != api.OK {
			break
		}
	}
	if done, err := act.Do(x, l, api.MaxInt); err == api.OK {
		whole(t, x, l, done)
	}
	if t.Failed() {
		t.FailNow() // one such is enough to read
	}
}

// whole tells where what is done whole is not as P11.5 says, and does not lead back.
func whole(t *testing.T, x []api.File, l []api.Action, done []api.File) {
	t.Helper()
	if !tree.Right(done) {
		t.Errorf("Do(%s, %s) is no tree: %s", brief(x), brief(l), brief(done))
	}
	is, was, last := modelOf(done), modelOf(x), map[string]api.Action{}
	for _, a := range l {
		last[a.Path] = a
	}
	for _, p := range slices.Concat(slices.Collect(maps.Keys(is)), slices.Collect(maps.Keys(was)), slices.Collect(maps.Keys(last))) {
		data, there := is[p]
		want, should := was[p]
		if a, has := last[p]; has {
			want, should = a.Data, a.Put
		}
		if there != should || there && data != want {
			t.Errorf("Do(%s, %s) has %q at %q", brief(x), brief(l), data, p)
		}
	}
	back := slices.DeleteFunc(act.Undo(x, l), func(a api.Action) bool {
		_, there := is[a.Path]
		return !a.Put && !there
	})
	does(t, done, back, api.MaxInt, x, api.OK)
	net := slices.DeleteFunc(act.Net(l), func(a api.Action) bool {
		_, there := was[a.Path]
		return !a.Put && !there
	})
	does(t, x, net, api.MaxInt, done, api.OK)
}

// P11.1 to P11.5: all short plans of few actions, done to some trees, with little room and much.
func TestAllShortPlans(t *testing.T) {
	var few []api.Action
	for _, p := range []string{"a", "a/b", "c", ""} {
		few = append(few, put(p, "1"), put(p, "22"), drop(p))
	}
	for _, x := range [][]api.File{nil, of("a", "1"), of("a/b", "3"), of("a", "", "c", "4"), of("a/b", "55", "c", ""), of("c", "1", "a", "2")} {
		for _, a := range few {
			for _, b := range few {
				follows(t, x, list(a, b), 2)
				for _, c := range few {
					follows(t, x, list(a, b, c), 3)
				}
			}
		}
	}
	for _, x := range slices.Concat(rights(), wrong()[:12]) {
		for _, l := range plans() {
			for _, room := range []int{-1, 0, 1, 3, 16, api.MaxInt} {
				follows(t, x, l, room)
			}
		}
	}
}

// P11.1, P11.5: what recon plans is done, and the tree is that of the archive.
func TestDoOfPlans(t *testing.T) {
	for _, x := range rights() {
		for _, y := range rights() {
			l, _, err := scan.Scan(nil, y, 0)
			if err != api.OK {
				t.Fatal(y, err)
			}
			plan, err := recon.Plan(x, l)
			if err != api.OK {
				t.Fatal(x, l, err)
			}
			does(t, x, plan, tree.Size(y), y, api.OK)
			does(t, x, plan, tree.Size(y)-1, nil, api.ErrFull)
			does(t, y, act.Undo(x, plan), api.MaxInt, x, api.OK)
			if net := act.Net(plan); !slices.Equal(net, plan) {
				t.Errorf("Net of the plan %s is %s", brief(plan), brief(net))
			}
		}
	}
}

// behind is l with spare room behind it, in which something stands.
func behind[T any](l []T, more ...T) []T { return append(slices.Clone(l), more...) }

// P11.4: what is handed in stays as it is, its spare room too, whatever is told.
func TestArgumentsStay(t *testing.T) {
	for _, x := range slices.Concat(rights(), wrong()[:12]) {
		for _, l := range plans() {
			files, actions := behind(x, of("z", "9", "A", "")...), behind(l, put("a", "9"), drop("z"), put("", ""))
			wantFiles, wantActions := slices.Clone(files), slices.Clone(actions)
			for _, room := range []int{-1, 1, api.MaxInt} {
				act.Do(files[:len(x)], actions[:len(l)], room)
			}
			act.Undo(files[:len(x)], actions[:len(l)])
			act.Paths(actions[:len(l)])
			act.Net(actions[:len(l)])
			if !slices.Equal(files, wantFiles) || !slices.Equal(actions, wantActions) {
				t.Fatalf("%s and %s became %s and %s", brief(wantFiles), brief(wantActions), brief(files), brief(actions))
			}
		}
	}
}

// spoil writes over all of l, and its spare room.
func spoil[T any](l []T, with T) {
	l = l[:cap(l)]
	for i := range l {
		l[i] = with
	}
}

// answers are what all calls tell of a tree and actions.
type answers struct {
	done      []api.File
	undo, net []api.Action
	paths     []string
}

func answersOf(x []api.File, l []api.Action) answers {
	done, _ := act.Do(x, l, api.MaxInt)
	return answers{done, act.Undo(x, l), act.Net(l), act.Paths(l)}
}

// held tells whether they are as they must be.
func (a answers) held(x []api.File, l []api.Action) bool {
	done, _ := mustDo(x, l, api.MaxInt)
	return slices.Equal(a.done, done) && slices.Equal(a.undo, mustUndo(x, l)) && slices.Equal(a.net, mustNet(l)) && slices.Equal(a.paths, mustPaths(l))
}

func (a answers) spoil() {
	spoil(a.done, api.File{Path: "spoilt", Data: "spoilt"})
	spoil(a.undo, put("spoilt", "spoilt"))
	spoil(a.net, put("spoilt", "spoilt"))
	spoil(a.paths, "spoilt")
}

// strings has all strings that are answered.
func (a answers) strings() []string {
	return slices.Concat(stringsOf(a.done, both(a.undo, a.net)), a.paths)
}

// stringsOf has all strings of files and actions.
func stringsOf(x []api.File, l []api.Action) []string {
	var all []string
	for _, f := range x {
		all = append(all, f.Path, f.Data)
	}
	for _, a := range l {
		all = append(all, a.Path, a.Data)
	}
	return all
}

// P11.4: who changes what was handed in, or answered, changes nothing else.
func TestAnswersApart(t *testing.T) {
	for _, x := range rights() {
		for _, l := range plans() {
			files, actions := slices.Clone(x), slices.Clone(l)
			one, two := answersOf(files, actions), answersOf(files, actions)
			two.spoil()
			if !slices.Equal(files, x) || !slices.Equal(actions, l) {
				t.Fatalf("an answer that is changed changes %s or %s", brief(x), brief(l))
			}
			spoil(files, api.File{Path: "spoilt"})
			spoil(actions, drop("spoilt"))
			if !one.held(x, l) || !answersOf(x, l).held(x, l) {
				t.Fatalf("of %s and %s: something is shared, or kept", brief(x), brief(l))
			}
		}
	}
}

// shares tells whether two strings have bytes in the same place.
func shares(a, b string) bool {
	if a == "" || b == "" {
		return false
	}
	p, q := uintptr(unsafe.Pointer(unsafe.StringData(a))), uintptr(unsafe.Pointer(unsafe.StringData(b)))
	return p < q+uintptr(len(b)) && q < p+uintptr(len(a))
}

// P11.4: strings that are answered are of new memory, too, each of one answer as well.
func TestStringsNew(t *testing.T) {
	for _, x := range rights() {
		for _, l := range plans() {
			given := stringsOf(x, l)
			got := slices.Concat(answersOf(x, l).strings(), answersOf(x, l).strings())
			for i, a := range got {
				for _, b := range slices.Concat(given, got[:i]) {
					if shares(a, b) {
						t.Fatalf("of %s and %s: %.40q is of old memory", brief(x), brief(l), a)
					}
				}
			}
		}
	}
}

// read makes a tree and actions of bytes, right ones often, and wrong ones too.
func read(b []byte) ([]api.File, []api.Action) {
	data := []string{"", "1", "22", "333", "1", bytes(600), "", bytes(601)}
	near := append(some(), "", "a/")
	var x []api.File
	var l []api.Action
	for len(b) >= 2 {
		p := at(int(b[0] % 20))
		if b[0] >= 128 {
			p = near[int(b[0])%len(near)]
		}
		d := data[b[1]>>2%8]
		if b[1]&3 == 0 {
			x = append(x, api.File{Path: p, Data: d})
		} else {
			l = append(l, api.Action{Path: p, Put: b[1]&3 < 3, Data: d})
		}
		b = b[2:]
	}
	if len(x)%5 > 0 {
		m := model{}
		for _, a := range puts(x) {
			m.does(a)
		}
		x = m.files()
	}
	return x, l
}

// P11.1 to P11.5: trees and actions at random.
func TestAtRandom(t *testing.T) {
	r := rand.New(rand.NewSource(11))
	errs := map[api.Errno]int{}
	for range 20000 {
		b := make([]byte, r.Intn(40))
		r.Read(b)
		x, l := read(b)
		room := r.Intn(20) - 1
		follows(t, x, l, room)
		_, err := act.Do(x, l, room)
		errs[err]++
	}
	for _, err := range []api.Errno{api.OK, api.ErrArg, api.ErrFull, api.ErrNone, api.ErrName} {
		if errs[err] < 200 {
			t.Error("too few of a kind:", errs)
		}
	}
}

// FuzzActs holds all calls against the other ways, at any tree, actions and room.
func FuzzActs(f *testing.F) {
	f.Add([]byte{}, 0)
	f.Add([]byte{128, 4, 128, 7, 131, 9}, 1)
	f.Add([]byte{130, 4, 132, 5, 130, 7, 139, 1, 130, 3}, -1)
	f.Add(slices.Repeat([]byte{1, 4, 2, 9, 3, 7, 19, 240, 4, 13}, 5), api.MaxInt)
	f.Fuzz(func(t *testing.T, b []byte, room int) {
		x, l := read(b[:min(len(b), 200)])
		follows(t, x, l, room)
	})
}
