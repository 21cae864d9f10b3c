package tree_test

import (
	"math/rand"
	"slices"
	"strings"
	"testing"
	"unsafe"

	"carpetbag/api"
	"carpetbag/path"
	"carpetbag/tree"
)

// of is the files of those paths and data, in turn.
func of(l ...string) []api.File {
	var t []api.File
	for i := 0; i < len(l); i += 2 {
		t = append(t, api.File{Path: l[i], Data: l[i+1]})
	}
	return t
}

// many is n files with rising paths, and some data, in directories of four.
func many(n int) []api.File {
	var t []api.File
	for i := range n {
		dir, name := string(rune('a'+i/4)), string(rune('a'+i%4))
		t = append(t, api.File{Path: "d/" + dir + "/" + name, Data: strings.Repeat(name, i)})
	}
	return t
}

// bytes is a string of n bytes.
func bytes(n int) string { return strings.Repeat("x", n) }

// some are paths that lie every way to each other.
func some() []string {
	return []string{
		"a", "b", "a-", "a.", "a.b", "a-b", "a0", "ab",
		"a/a", "a/b", "a/b-", "a/b.c", "a.b/c", "ab/a", "b/a",
		"a/b/c", "a/b/c/d", "a/b.c/d", "a-/b/c/d", "abcdefghijkl",
	}
}

// noPaths are strings that are none.
func noPaths() []string {
	return []string{
		"", ".", "..", "/", "A", "a b", "a_b", "/a", "a/", "a//b", "a/.", "../a", "a/B", "a/b/c/d/", "a/b/c/d/e", "a\x00", "\xff", "\u00e4",
		"abcdefghijklm", "a/abcdefghijklm", bytes(1 << 16), strings.Repeat("a/", 1<<12),
	}
}

// wrong are trees that are not right.
func wrong() [][]api.File {
	all := [][]api.File{
		of("b", "1", "a", "2"),
		of("a", "1", "a", "1"),
		of("a", "1", "a", "2", "b", "3"),
		of("a", "1", "c", "2", "b", "3"),
		of("b", "1", "a", "2", "c", "3"),
		of("a", "1", "a/b", "2"),
		of("a", "1", "a.b", "2", "a/b", "3"),
		of("a", "1", "a-", "2", "a.", "3", "a/b/c/d", "4"),
		of("a/b", "1", "a/b.c", "2", "a/b/c", "3", "b", "4"),
		of("a", "1", "b", "2", "b-", "3", "b/c", "4"),
		of("a/b", "1", "a", "2"),
		of("a", bytes(601)),
		of("a", bytes(1<<16)),
		of("a", "1", "b", bytes(601), "c", "2"),
		of("a", bytes(600), "b", bytes(601)),
		many(17),
		many(18),
		slices.Concat(many(16), of("e", "")),
		slices.Concat(of("a", ""), many(16)),
		make([]api.File, 1),
		make([]api.File, 16),
		make([]api.File, 1<<16),
		slices.Repeat(of("a", "1"), 1<<16),
	}
	for _, s := range noPaths() {
		all = append(all, of(s, "1"), []api.File{{Path: "-"}, {Path: s}}, []api.File{{Path: s}, {Path: "z"}}, []api.File{{Path: "-"}, {Path: s}, {Path: "z"}})
	}
	return all
}

// rights are trees that are.
func rights() [][]api.File {
	return [][]api.File{
		nil,
		{},
		of("a", ""),
		of("a", "1"),
		of("a/b/c/d", "1"),
		of("a", "1", "b", "2"),
		of("a", "1", "a.b", "2"),
		of("a", "1", "a-", "2", "a-b", "3", "a.", "4", "a.b", "5", "a0", "6", "ab", "7"),
		of("a.b", "1", "a/b", "2"),
		of("a-/a", "1", "a./a", "2", "a/a", "3", "a/b.c/d", "4", "a/b/c", "5", "ab/a", "6"),
		of("10", "1", "9", "2"),
		of("a", "\x00\xff", "b", "\n"),
		of("a", bytes(599)),
		of("a", bytes(600)),
		of("a", bytes(600), "b", bytes(600), "c", ""),
		many(1),
		many(2),
		many(15),
		many(16),
	}
}

// right tells of paths, each of which is one, by another way whether their files are a right tree.
func right(l []string) bool {
	for i, a := range l {
		for _, b := range l[:i] {
			if a <= b || strings.HasPrefix(a+"/", b+"/") || strings.HasPrefix(b+"/", a+"/") {
				return false
			}
		}
	}
	return len(l) <= 16
}

// P4.1: what is a right tree, and what is none.
func TestRight(t *testing.T) {
	for i, x := range rights() {
		if !tree.Right(x) {
			t.Errorf("right tree %d is not: %.80q", i, x)
		}
	}
	for i, x := range wrong() {
		if tree.Right(x) {
			t.Errorf("wrong tree %d is right: %.80q", i, x[:min(len(x), 20)])
		}
	}
}

// P4.1: of every three paths: they rise, and none is Under another one, be it next to it or not.
func TestRightOfThree(t *testing.T) {
	for _, a := range some() {
		for _, b := range some() {
			if got := tree.Right(of(a, "", b, "")); got != right([]string{a, b}) {
				t.Errorf("Right of %q, %q is %v", a, b, got)
			}
			for _, c := range some() {
				if got := tree.Right(of(a, "", b, "", c, "")); got != right([]string{a, b, c}) {
					t.Errorf("Right of %q, %q, %q is %v", a, b, c, got)
				}
			}
		}
	}
}

// P4.1: 0 to MaxFiles files, and no more.
func TestRightByFiles(t *testing.T) {
	for n := range 40 {
		if got := tree.Right(many(n)); got != (n <= 16) {
			t.Errorf("Right of %d files is %v", n, got)
		}
	}
}

// P4.1: one wrong file, at each place of a tree, makes it wrong.
func TestRightAtEachPlace(t *testing.T) {
	x := many(16)
	for i := range x {
		change := func(f api.File) []api.File {
			y := slices.Clone(x)
			y[i] = f
			return y
		}
		f := x[i]
		if !tree.Right(change(api.File{Path: f.Path, Data: bytes(600)})) {
			t.Errorf("MaxData bytes at %d are too many", i)
		}
		if tree.Right(change(api.File{Path: f.Path, Data: bytes(601)})) {
			t.Errorf("more than MaxData bytes at %d are fine", i)
		}
		if tree.Right(change(api.File{Path: f.Path + "/", Data: f.Data})) {
			t.Errorf("what is no path is fine at %d", i)
		}
		if i > 0 && tree.Right(change(x[i-1])) {
			t.Errorf("a path stands twice at %d", i)
		}
		if tree.Right(change(api.File{Path: x[(i+3)%16].Path + "x"})) {
			t.Errorf("paths that do not rise are fine at %d", i)
		}
		if i < 15 && tree.Right(change(api.File{Path: path.Parent(x[i+1].Path)})) {
			t.Errorf("a path above the next one is fine at %d", i)
		}
	}
}

// P4.1: the place of each file, and -1 where there is none.
func TestFind(t *testing.T) {
	for _, x := range rights() {
		for i, f := range x {
			if got := tree.Find(x, f.Path); got != i {
				t.Errorf("Find(%.80q, %q) = %d", x, f.Path, got)
			}
		}
		for _, s := range slices.Concat(some(), noPaths(), []string{"d", "d/a", "d/a/a/a", "-", "z", "d/b/aa", "d/b/a.", "d/z/z"}) {
			want := slices.IndexFunc(x, func(f api.File) bool { return f.Path == s })
			if got := tree.Find(x, s); got != want {
				t.Errorf("Find(%.80q, %.40q) = %d, not %d", x, s, got, want)
			}
		}
	}
}

// P4.1: the data of each file, empty data too, and none where there is no file.
func TestGet(t *testing.T) {
	for _, x := range rights() {
		for _, f := range x {
			if got, is := tree.Get(x, f.Path); got != f.Data || !is {
				t.Errorf("Get(%.80q, %q) = %q, %v", x, f.Path, got, is)
			}
		}
		for _, s := range slices.Concat(noPaths(), []string{"d", "d/a", "d/a/a/a", "-", "zz"}) {
			if got, is := tree.Get(x, s); got != "" || is {
				t.Errorf("Get(%.80q, %.40q) = %q, %v", x, s, got, is)
			}
		}
	}
}

// P4.1: the bytes of all data, of any tree.
func TestSize(t *testing.T) {
	for _, c := range []struct {
		t    []api.File
		want int
	}{
		{nil, 0},
		{[]api.File{}, 0},
		{of("a", ""), 0},
		{of("a", "123"), 3},
		{of("a", "1", "b/c", "22", "d", "", "e", "4444"), 7},
		{of("a", "\u00e4\x00"), 3},
		{many(16), 120},
		{many(30), 435},
		{of("b", "1", "a", "2"), 2},
		{of("a", "1", "a", "1"), 2},
		{of("a", "1", "a/b", "22"), 3},
		{of("A", "1", "", "22"), 3},
		{of("a", bytes(600), "b", bytes(600)), 1200},
		{of("a", bytes(601)), 601},
		{of("a", bytes(1<<20), "a", bytes(5)), 1<<20 + 5},
		{slices.Repeat(of("a", "12"), 1<<16), 1 << 17},
	} {
		if got := tree.Size(c.t); got != c.want {
			t.Errorf("Size of %d files is %d, not %d", len(c.t), got, c.want)
		}
	}
}

// P4.1: all parts are alike, or not: of right trees, and of others.
func TestSame(t *testing.T) {
	var all [][]api.File
	for _, x := range slices.Concat(rights()[1:], wrong()) {
		all = append(all, x[:min(len(x), 20)])
	}
	for i, x := range all {
		if !tree.Same(x, slices.Clone(x)) {
			t.Errorf("tree %d is not as itself", i)
		}
		for k := range x {
			for _, f := range []api.File{{Path: x[k].Path + "x", Data: x[k].Data}, {Path: x[k].Path, Data: x[k].Data + "x"}, {Path: x[k].Data, Data: x[k].Path}} {
				y := slices.Clone(x)
				y[k] = f
				if f != x[k] && (tree.Same(x, y) || tree.Same(y, x)) {
					t.Errorf("tree %d is as one with another file at %d", i, k)
				}
			}
			if tree.Same(x, x[:k]) || tree.Same(x[:k], x) {
				t.Errorf("tree %d is as its first %d files", i, k)
			}
		}
	}
	if tree.Same(of("a", "1", "b", "2"), of("b", "2", "a", "1")) {
		t.Error("files in another order are the same")
	}
	if !tree.Same(nil, []api.File{}) || !tree.Same([]api.File{}, nil) || !tree.Same(nil, nil) {
		t.Error("no files are not as no files")
	}
}

// P4.1: the paths of all files Under dir, in order.
func TestIn(t *testing.T) {
	x := of("a-b", "", "a.b/c", "", "a/a", "1", "a/b-", "2", "a/b.c/d", "", "a/b/a/a", "3", "a/b/c", "", "ab/a", "4", "b", "5")
	for _, c := range []struct {
		dir  string
		want []string
	}{
		{"a", []string{"a/a", "a/b-", "a/b.c/d", "a/b/a/a", "a/b/c"}},
		{"a/b", []string{"a/b/a/a", "a/b/c"}},
		{"a/b/a", []string{"a/b/a/a"}},
		{"a/b.c", []string{"a/b.c/d"}},
		{"a.b", []string{"a.b/c"}},
		{"ab", []string{"ab/a"}},
		{"a/a", nil},
		{"a/b/a/a", nil},
		{"b", nil},
		{"b/x", nil},
		{"a/a/b", nil},
		{"a-b", nil},
		{"c", nil},
		{"a-", nil},
		{"a/", nil},
		{"a/b/", nil},
		{"/a", nil},
		{"", nil},
		{"/", nil},
		{".", nil},
		{"a/b/a/a/a", nil},
		{bytes(1 << 16), nil},
	} {
		if got := tree.In(x, c.dir); !slices.Equal(got, c.want) {
			t.Errorf("In(%.40q) = %q", c.dir, got)
		}
	}
	var all []string
	for _, f := range many(16) {
		all = append(all, f.Path)
	}
	if !slices.Equal(tree.In(many(16), "d"), all) || !slices.Equal(tree.In(many(16), "d/c"), all[8:12]) || len(tree.In(nil, "a")) != 0 {
		t.Error("of a full tree, or an empty one, not all are told")
	}
}

// P4.2: Put, ordinary and at the edges.
func TestPut(t *testing.T) {
	full := many(16)
	for _, c := range []struct {
		t          []api.File
		path, data string
		want       []api.File
		err        api.Errno
	}{
		{nil, "a", "1", of("a", "1"), api.OK},
		{[]api.File{}, "a/b/c/d", "", of("a/b/c/d", ""), api.OK},
		{of("a", "1"), "b", "2", of("a", "1", "b", "2"), api.OK},
		{of("b", "1"), "a", "2", of("a", "2", "b", "1"), api.OK},
		{of("a", "1", "c", "3"), "b", "2", of("a", "1", "b", "2", "c", "3"), api.OK},
		{of("a", "1"), "a", "2", of("a", "2"), api.OK},
		{of("a", "1"), "a", "1", of("a", "1"), api.OK},
		{of("a", "1"), "a", "", of("a", ""), api.OK},
		{of("a", "1", "b", "2", "c", "3"), "b", "4", of("a", "1", "b", "4", "c", "3"), api.OK},
		{of("a", "1"), "a.b", "2", of("a", "1", "a.b", "2"), api.OK},
		{of("a.b", "1"), "a", "2", of("a", "2", "a.b", "1"), api.OK},
		{of("a", "1"), "ab/c", "2", of("a", "1", "ab/c", "2"), api.OK},
		{of("a/b", "1"), "a/b.c", "2", of("a/b", "1", "a/b.c", "2"), api.OK},
		{of("a/b", "1"), "a/c", "2", of("a/b", "1", "a/c", "2"), api.OK},
		{of("a/b", "1"), "a.c", "2", of("a.c", "2", "a/b", "1"), api.OK},
		{of("9", "1"), "10", "2", of("10", "2", "9", "1"), api.OK},
		{nil, "a", bytes(600), of("a", bytes(600)), api.OK},
		{of("a", "1"), "a", bytes(600), of("a", bytes(600)), api.OK},
		{many(15), full[15].Path, full[15].Data, full, api.OK},
		{full[1:], full[0].Path, full[0].Data, full, api.OK},
		{full, full[0].Path, "new", slices.Concat(of(full[0].Path, "new"), full[1:]), api.OK},
		{full, full[15].Path, bytes(600), slices.Concat(full[:15], of(full[15].Path, bytes(600))), api.OK},
		{of("a", "1"), "a/b", "2", nil, api.ErrName},
		{of("a", "1"), "a/b/c/d", "2", nil, api.ErrName},
		{of("a/b", "1"), "a", "2", nil, api.ErrName},
		{of("a/b/c/d", "1"), "a", "2", nil, api.ErrName},
		{of("a/b/c/d", "1"), "a/b/c", "2", nil, api.ErrName},
		{of("a", "1", "a.b", "2", "c", "3"), "a/b", "4", nil, api.ErrName},
		{of("a-", "1", "a.b", "2", "a/b", "3"), "a", "4", nil, api.ErrName},
		{full, "d", "1", nil, api.ErrName},
		{full, "d/d", "1", nil, api.ErrName},
		{full, "d/d/d/d", "1", nil, api.ErrName},
		{nil, "a", bytes(601), nil, api.ErrFull},
		{nil, "a", bytes(1 << 16), nil, api.ErrFull},
		{nil, "a", bytes(1<<16 + 1), nil, api.ErrFull},
		{of("a", "1"), "a", bytes(601), nil, api.ErrFull},
		{full, "e", "", nil, api.ErrFull},
		{full, "a", "1", nil, api.ErrFull},
		{full, "d/b/aa", "1", nil, api.ErrFull},
		{full, "d.", "1", nil, api.ErrFull},
		{full, "e", bytes(601), nil, api.ErrFull},
		{full, full[3].Path, bytes(601), nil, api.ErrFull},
		{of("a", "1"), "a/b", bytes(601), nil, api.ErrName},
		{full, "d/d", bytes(601), nil, api.ErrName},
	} {
		got, err := tree.Put(c.t, c.path, c.data)
		if err != c.err || !slices.Equal(got, c.want) {
			t.Errorf("Put(%.80q, %q, %.20q) = %.80q, %v; not %.80q, %v", c.t, c.path, c.data, got, err, c.want, c.err)
		}
	}
}

// P4.2: at what is no path ErrName, ahead of ErrFull.
func TestPutNoPath(t *testing.T) {
	for _, x := range [][]api.File{nil, of("a", "1"), many(15), many(16)} {
		for _, s := range noPaths() {
			for _, data := range []string{"", "1", bytes(600), bytes(601)} {
				if got, err := tree.Put(x, s, data); err != api.ErrName || len(got) != 0 {
					t.Errorf("Put to %d files of %.40q: %.80q, %v", len(x), s, got, err)
				}
			}
		}
	}
}

// P4.2: of every two paths, put behind each other: ErrName, if one is Under the other.
func TestPutBeside(t *testing.T) {
	for _, a := range some() {
		for _, b := range some() {
			x, err := tree.Put(nil, a, "1")
			if err != api.OK {
				t.Fatalf("Put %q: %v", a, err)
			}
			x, err = tree.Put(x, b, "2")
			clash := a != b && !right([]string{min(a, b), max(a, b)})
			if clash && (err != api.ErrName || len(x) != 0) || !clash && (err != api.OK || !tree.Right(x)) {
				t.Errorf("Put %q, then %q: %q, %v", a, b, x, err)
			}
		}
	}
}

// P4.2: Drop of each file, and ErrNone where there is none.
func TestDrop(t *testing.T) {
	for _, x := range rights() {
		for i, f := range x {
			got, err := tree.Drop(x, f.Path)
			if want := slices.Concat(x[:i], x[i+1:]); err != api.OK || !slices.Equal(got, want) {
				t.Errorf("Drop(%.80q, %q) = %.80q, %v", x, f.Path, got, err)
			}
		}
		for _, s := range slices.Concat(noPaths(), []string{"d", "d/a", "d/a/a/a", "-", "zz", "a.c", "a/b/c/d/e", "d/b/aa"}) {
			if got, err := tree.Drop(x, s); err != api.ErrNone || len(got) != 0 {
				t.Errorf("Drop(%.80q, %.40q) = %.80q, %v", x, s, got, err)
			}
		}
	}
	for _, s := range []string{"a", "a/b", "a/b/d", "a/b/c/d"} {
		if _, err := tree.Drop(of("a/b/c", "1"), s); err != api.ErrNone {
			t.Errorf("Drop of %q beside a/b/c: %v", s, err)
		}
	}
}

// The words: of what is no right tree Put and Drop tell ErrArg, ahead of other errors, Find -1, Get none, In none.
func TestWrongTrees(t *testing.T) {
	for i, x := range wrong() {
		ask := []string{"a", "b", "d", "-", "z", "q", "a/b", "a/z", "", "A", "d/a/a", "d/a/a/a"}
		for _, f := range x[:min(len(x), 18)] {
			ask = append(ask, f.Path)
		}
		for _, s := range ask {
			for _, data := range []string{"", "1", bytes(601)} {
				if got, err := tree.Put(x, s, data); err != api.ErrArg || len(got) != 0 {
					t.Errorf("Put of %.40q in wrong tree %d: %.80q, %v", s, i, got, err)
				}
			}
			if got, err := tree.Drop(x, s); err != api.ErrArg || len(got) != 0 {
				t.Errorf("Drop of %.40q in wrong tree %d: %.80q, %v", s, i, got, err)
			}
			if got := tree.Find(x, s); got != -1 {
				t.Errorf("Find of %.40q in wrong tree %d: %d", s, i, got)
			}
			if got, is := tree.Get(x, s); got != "" || is {
				t.Errorf("Get of %.40q in wrong tree %d: %q, %v", s, i, got, is)
			}
			if got := tree.In(x, s); len(got) != 0 {
				t.Errorf("In of %.40q in wrong tree %d: %q", s, i, got)
			}
		}
	}
}

// room is t with spare room behind it, in which something stands.
func room(t []api.File) []api.File {
	return append(slices.Clone(t), of("spare", "s", "A", "", "a", "t")...)[:len(t)]
}

// P4.3: what is handed in stays as it is, its spare room too.
func TestArgumentsStay(t *testing.T) {
	trees := slices.Concat(rights(), wrong()[:17])
	for _, x := range trees {
		y := room(x)
		all := y[:len(x)+3]
		want := slices.Clone(all)
		for _, s := range slices.Concat(some(), []string{"d/a/a", "d/b/a", "d", "-", "", "z"}) {
			tree.Right(y)
			tree.Find(y, s)
			tree.Get(y, s)
			tree.Put(y, s, "new")
			tree.Drop(y, s)
			tree.In(y, s)
			tree.Size(y)
			tree.Same(y, y)
			if !slices.Equal(all, want) {
				t.Fatalf("at %q %.80q became %.80q", s, want, all)
			}
		}
	}
}

// spoil writes over all files of t, and its spare room.
func spoil(t []api.File) {
	for i := range t[:cap(t)] {
		t[:cap(t)][i] = api.File{Path: "spoilt", Data: "spoilt"}
	}
}

// P4.3: who changes what was answered, or handed in, changes nothing else.
func TestAnswersApart(t *testing.T) {
	for _, x := range [][]api.File{nil, of("a", "1"), of("a", "1", "b", "2"), many(15), many(16)} {
		for _, s := range []string{"a", "b", "c", "d/a/a", "d/d/c", "-"} {
			for _, call := range []func([]api.File) ([]api.File, api.Errno){
				func(y []api.File) ([]api.File, api.Errno) { return tree.Put(y, s, "new") },
				func(y []api.File) ([]api.File, api.Errno) { return tree.Drop(y, s) },
			} {
				y := room(x)
				one, _ := call(y)
				two, _ := call(y)
				want := slices.Clone(one)
				spoil(two)
				if !slices.Equal(y, x) || !slices.Equal(one, want) {
					t.Errorf("at %q: an answer that is changed changes another one", s)
				}
				spoil(y)
				if !slices.Equal(one, want) {
					t.Errorf("at %q: a tree that is changed changes an answer", s)
				}
			}
		}
	}
	one, two := tree.In(many(16), "d/b"), tree.In(many(16), "d/b")
	for i := range one[:cap(one)] {
		one[:cap(one)][i] = "spoilt"
	}
	if !slices.Equal(two, []string{"d/b/a", "d/b/b", "d/b/c", "d/b/d"}) {
		t.Error("an answer of In changed with another one")
	}
}

// shares tells whether two strings have bytes in the same place.
func shares(a, b string) bool {
	if a == "" || b == "" {
		return false
	}
	p, q := uintptr(unsafe.Pointer(unsafe.StringData(a))), uintptr(unsafe.Pointer(unsafe.StringData(b)))
	return p < q+uintptr(len(b)) && q < p+uintptr(len(a))
}

// P4.3: strings that are answered are of new memory, too.
func TestStringsAreNew(t *testing.T) {
	x := many(12)
	var given []string
	for _, f := range x {
		given = append(given, f.Path, f.Data)
	}
	fresh := func(what string, l ...string) {
		t.Helper()
		for _, a := range l {
			if slices.ContainsFunc(given, func(b string) bool { return shares(a, b) }) {
				t.Errorf("%s: %q is of old memory", what, a)
			}
		}
	}
	at, data := strings.Clone("d/e/x"), strings.Clone("data")
	given = append(given, at, data)
	for _, s := range []string{at, x[7].Path} {
		y, err := tree.Put(x, s, data)
		if err != api.OK {
			t.Fatal(err)
		}
		for _, f := range y {
			fresh("Put", f.Path, f.Data)
		}
	}
	y, _ := tree.Drop(x, x[3].Path)
	for _, f := range y {
		fresh("Drop", f.Path, f.Data)
	}
	got, _ := tree.Get(x, x[5].Path)
	fresh("Get", got)
	fresh("In", tree.In(x, "d")...)
}

// P4.4: what was put is got, all else is as it was, and the tree is right.
func TestPutIsGot(t *testing.T) {
	for _, x := range rights() {
		for _, s := range slices.Concat(some(), []string{"d/a/b", "d/z", "e", "-"}) {
			y, err := tree.Put(x, s, "put")
			if err != api.OK {
				continue
			}
			if got, is := tree.Get(y, s); got != "put" || !is {
				t.Errorf("%q was put, but %q is got", s, got)
			}
			if !tree.Right(y) || len(y) > len(x)+1 || tree.Find(x, s) >= 0 && len(y) != len(x) {
				t.Errorf("what is put in %.80q is %.80q", x, y)
			}
			for _, f := range x {
				if got, is := tree.Get(y, f.Path); f.Path != s && (got != f.Data || !is) {
					t.Errorf("%q was put, and %q became %q", s, f.Path, got)
				}
			}
			z, err := tree.Drop(y, s)
			back := slices.DeleteFunc(slices.Clone(x), func(f api.File) bool { return f.Path == s })
			if err != api.OK || !tree.Right(z) || !tree.Same(z, back) {
				t.Errorf("%q was put and dropped: %.80q, %v", s, z, err)
			}
		}
	}
}

// P4.4: the order in which files are put does not matter.
func TestOrderOfPuts(t *testing.T) {
	r := rand.New(rand.NewSource(4))
	for _, x := range rights() {
		for range 50 {
			var y []api.File
			for _, i := range r.Perm(len(x)) {
				var err api.Errno
				if y, err = tree.Put(y, x[i].Path, x[i].Data); err != api.OK {
					t.Fatalf("Put %q: %v", x[i].Path, err)
				}
			}
			if !tree.Same(y, x) {
				t.Fatalf("%.80q, put in another order, is %.80q", x, y)
			}
		}
	}
}

// model is a tree, kept another way: data by paths.
type model map[string]string

func (m model) put(s, data string) api.Errno {
	if !path.Right(s) {
		return api.ErrName
	}
	for other := range m {
		if strings.HasPrefix(other, s+"/") || strings.HasPrefix(s, other+"/") {
			return api.ErrName
		}
	}
	if _, is := m[s]; len(data) > 600 || !is && len(m) >= 16 {
		return api.ErrFull
	}
	m[s] = data
	return api.OK
}

func (m model) drop(s string) api.Errno {
	if _, is := m[s]; !is {
		return api.ErrNone
	}
	delete(m, s)
	return api.OK
}

// holds tells whether x has what the model has.
func (m model) holds(x []api.File) bool {
	size := 0
	for s, data := range m {
		size += len(data)
		if got, is := tree.Get(x, s); !is || got != data {
			return false
		}
	}
	return tree.Right(x) && len(x) == len(m) && tree.Size(x) == size
}

// run puts and drops as the numbers say, in a tree and in a model, and tells where they differ.
func run(t *testing.T, steps []byte) {
	all := slices.Concat(some(), []string{"c", "c/a", "d", "e/f", "e/g", "f", "g", "h", "i/j/k", "i/j/l", "k", "l", "", "A", "a/", "a/b/c/d/e"})
	var x []api.File
	m := model{}
	for _, n := range steps {
		s := all[int(n&63)%len(all)]
		var y []api.File
		var err, want api.Errno
		if n >= 192 {
			y, err = tree.Drop(x, s)
			want = m.drop(s)
		} else {
			data := bytes(int(n>>6) * 300)
			if n == 63 {
				data = bytes(601)
			}
			y, err = tree.Put(x, s, data)
			want = m.put(s, data)
		}
		if err != want || err != api.OK && len(y) != 0 {
			t.Fatalf("step %d, %q, of %q: %v, not %v", n, s, x, err, want)
		}
		if err == api.OK {
			x = y
		}
		if !m.holds(x) {
			t.Fatalf("step %d, %q: %.200q", n, s, x)
		}
	}
}

// P4.4: many steps, held against the model.
func TestManySteps(t *testing.T) {
	r := rand.New(rand.NewSource(44))
	for range 100 {
		steps := make([]byte, 200)
		r.Read(steps)
		run(t, steps)
	}
}

// FuzzSteps is the same at any steps.
func FuzzSteps(f *testing.F) {
	f.Add([]byte{0, 8, 192, 8, 0})
	f.Add([]byte{0, 1, 2, 3, 4, 5, 6, 7, 20, 22, 23, 25, 26, 27, 28, 30, 31, 63, 195, 31})
	f.Fuzz(func(t *testing.T, steps []byte) {
		run(t, steps[:min(len(steps), 300)])
	})
}
