package chain_test

import (
	"fmt"
	"math/big"
	"math/rand"
	"reflect"
	"slices"
	"strings"
	"testing"
	"unsafe"

	"carpetbag/api"
	"carpetbag/chain"
	"carpetbag/record"
)

// cursor is a cursor's four numbers.
func cursor(version, head, epoch, ack int) api.Cursor {
	return api.Cursor{Version: version, Head: head, Epoch: epoch, Ack: ack}
}

// file is a piece with a file of a size, with those chunks; gone is one without.
func file(path string, size, digest int, chunks ...int) api.Piece {
	return api.Piece{Path: path, Has: true, Size: size, Digest: digest, Chunks: chunks, Clock: api.Pair{Right: 1}}
}

func gone(path string) api.Piece { return api.Piece{Path: path, Clock: api.Pair{Left: 1}} }

// pieces are some that a right manifest may have.
func pieces() []api.Piece {
	return []api.Piece{file("a", 130, 5, 7, 8, 9), file("a/b", 65, 12, 10, 11), gone("b"), file("cc/dd", 0, 13)}
}

// rows is n pieces, with rising paths.
func rows(n int) []api.Piece {
	var l []api.Piece
	for i := range n {
		path := fmt.Sprintf("d%03d/%c", i/8, 'a'+i%8)
		if i%3 == 2 {
			l = append(l, gone(path))
		} else {
			l = append(l, file(path, 65, i, 2*i, 2*i+1))
		}
	}
	return l
}

// at, own and next are a cursor, the digests of what one published oneself, and a manifest of author 1 that is the next one there.
func at() api.Cursor { return cursor(3, 7, 1, 1) }

func own() []int { return []int{5, 6, 8} }

func next() api.Manifest {
	return api.Manifest{Author: 1, Version: 4, Prev: 7, Epoch: 1, Next: 1, Seen: 2, SeenHead: 6, Pieces: pieces()}
}

// with is next, changed.
func with(change func(m *api.Manifest)) api.Manifest {
	m := next()
	change(&m)
	return m
}

// bare is a manifest without pieces.
func bare(author, version, prev, epoch, after, seen, head int) api.Manifest {
	return api.Manifest{Author: author, Version: version, Prev: prev, Epoch: epoch, Next: after, Seen: seen, SeenHead: head}
}

// edges are numbers at the ends of what any part of a cursor, or a manifest, may have, and beyond.
func edges() []int {
	l := []int{api.MinInt, api.MinInt + 1, -1 << 32, -200, -2, -1, api.MaxInt - 1, api.MaxInt}
	for _, n := range []int{1, 4, 7, 100, 200, 1 << 31, 1 << 32} {
		l = append(l, n-1, n, n+1)
	}
	return l
}

// noPieces are lists that no right manifest has.
func noPieces() [][]api.Piece {
	old := gone("a")
	old.Clock = api.Pair{}
	wide := gone("a")
	wide.Clock.Left = api.MaxCount + 1
	below := gone("a")
	below.Clock.Right = -1
	full := gone("a")
	full.Chunks = []int{1}
	return [][]api.Piece{
		rows(33),
		rows(34),
		make([]api.Piece, 1),
		make([]api.Piece, 1<<16),
		{gone("b"), gone("a")},
		{gone("a"), gone("a")},
		{file("a", 1, 1, 1), file("a", 1, 1, 1)},
		{gone("")},
		{gone("A")},
		{gone("a/")},
		{gone("..")},
		{gone("a/b/c/d/e")},
		{gone("abcdefghijklm")},
		{file("a", 0, 1, 1)},
		{file("a", 1, 1)},
		{file("a", 64, 1, 1, 2)},
		{file("a", 65, 1, 1)},
		{file("a", 601, 1, 1, 2, 3, 4, 5, 6, 7, 8, 9, 10)},
		{file("a", -1, 1)},
		{file("a", 1, -1, 1)},
		{file("a", 1, api.MaxNumber+1, 1)},
		{file("a", 1, 1, -1)},
		{file("a", 1, 1, api.MaxNumber+1)},
		{gone("0"), file("a", 1, 1, -1)},
		{old}, {wide}, {below}, {full},
	}
}

// wrongs are manifests that are not right, though next is in all else.
func wrongs() []api.Manifest {
	all := []api.Manifest{
		{},
		with(func(m *api.Manifest) { m.Next = 3 }),
		with(func(m *api.Manifest) { m.Next = 0 }),
		with(func(m *api.Manifest) { m.Epoch, m.Next = 100, 101 }),
		with(func(m *api.Manifest) { m.Epoch, m.Next = 101, 101 }),
		with(func(m *api.Manifest) { m.Epoch, m.Next = -1, 0 }),
	}
	for _, n := range []int{api.MinInt, -1, 1 << 32, 1<<32 + 7, api.MaxInt} {
		all = append(all,
			with(func(m *api.Manifest) { m.Author = n }),
			with(func(m *api.Manifest) { m.Version = n }),
			with(func(m *api.Manifest) { m.Prev = n }),
			with(func(m *api.Manifest) { m.Epoch = n }),
			with(func(m *api.Manifest) { m.Next = n }),
			with(func(m *api.Manifest) { m.Seen = n }),
			with(func(m *api.Manifest) { m.SeenHead = n }))
	}
	for _, n := range []int{0, 201} {
		all = append(all, with(func(m *api.Manifest) { m.Version = n }))
	}
	all = append(all, with(func(m *api.Manifest) { m.Author = 2 }))
	for _, l := range noPieces() {
		all = append(all, with(func(m *api.Manifest) { m.Pieces = l }))
	}
	return all
}

// alike tells by another way whether all parts are.
func alike(a, b api.Manifest) bool { return reflect.DeepEqual(deep(a), deep(b)) }

// deep is m, of new memory in all depths, with nil lists for empty ones.
func deep(m api.Manifest) api.Manifest {
	m.Pieces = append([]api.Piece(nil), m.Pieces...)
	for i, p := range m.Pieces {
		m.Pieces[i].Path = strings.Clone(p.Path)
		m.Pieces[i].Chunks = append([]int(nil), p.Chunks...)
	}
	return m
}

// more is a number, and n more, that does not go round.
func more(a, n int) *big.Int { return new(big.Int).Add(big.NewInt(int64(a)), big.NewInt(int64(n))) }

// mustAccept tells by another way what Accept answers: of all that is wrong the first.
func mustAccept(c api.Cursor, author int, m api.Manifest, head int, own []int) (api.Cursor, api.Errno) {
	ahead := new(big.Int).Sub(more(m.Version, 0), more(c.Version, 0))
	digests := map[int]int{0: 0}
	for i, d := range own {
		digests[i+1] = d
	}
	seen, there := digests[m.Seen]
	switch {
	case !record.Right(m):
		return c, api.ErrForm
	case m.Author != author:
		return c, api.ErrForm
	case ahead.Sign() <= 0:
		return c, api.ErrOld
	case ahead.Cmp(big.NewInt(1)) > 0:
		return c, api.ErrGap
	case m.Prev != c.Head:
		return c, api.ErrFork
	case m.Epoch != c.Epoch:
		return c, api.ErrEpoch
	case m.Seen < c.Ack:
		return c, api.ErrFork
	case !there || m.SeenHead != seen:
		return c, api.ErrFork
	}
	return cursor(m.Version, head, m.Next, m.Seen), api.OK
}

// mustFollow tells by another way what Follow answers: the first one, and then the others.
func mustFollow(c api.Cursor, author int, l []api.Manifest, heads, own []int) (api.Cursor, int, api.Errno) {
	if len(l) == 0 {
		return c, 0, api.OK
	}
	if len(heads) == 0 {
		heads = []int{0}
	}
	c, err := mustAccept(c, author, l[0], heads[0], own)
	if err != api.OK {
		return c, 0, err
	}
	c, n, err := mustFollow(c, author, l[1:], heads[1:], own)
	return c, n + 1, err
}

// mustNext tells by another way what Next answers.
func mustNext(c api.Cursor, author int, turn bool, peer api.Cursor, l []api.Piece) (api.Manifest, api.Errno) {
	version, after := more(c.Version, 1), more(c.Epoch, map[bool]int{true: 1}[turn])
	if version.Cmp(big.NewInt(200)) > 0 || after.Cmp(big.NewInt(100)) > 0 {
		return api.Manifest{}, api.ErrFull
	}
	m := bare(author, int(version.Int64()), c.Head, c.Epoch, int(after.Int64()), peer.Version, peer.Head)
	m.Pieces = l
	if !record.Right(m) {
		return api.Manifest{}, api.ErrForm
	}
	return m, api.OK
}

// brief is what a message has of something, however long that is.
func brief(x any) string {
	s := fmt.Sprintf("%+v", x)
	if len(s) > 300 {
		s = s[:300] + " and more"
	}
	return s
}

// accepts tells where Accept answers otherwise than it must.
func accepts(t *testing.T, c api.Cursor, author int, m api.Manifest, head int, own []int, want api.Cursor, err api.Errno) {
	t.Helper()
	if got, e := chain.Accept(c, author, m, head, own); got != want || e != err {
		t.Errorf("Accept(%+v, %d, %s, %d, %s) = %+v, %v, not %+v, %v", c, author, brief(m), head, brief(own), got, e, want, err)
	}
}

// tells tells where Accept behind c does not refuse m with that error, and c as it is.
func tells(t *testing.T, c api.Cursor, author int, m api.Manifest, own []int, err api.Errno) {
	t.Helper()
	accepts(t, c, author, m, 9, own, c, err)
}

// must tells where Accept answers otherwise than mustAccept, and what that answers.
func must(t *testing.T, c api.Cursor, author int, m api.Manifest, head int, own []int) (api.Cursor, api.Errno) {
	t.Helper()
	want, err := mustAccept(c, author, m, head, own)
	accepts(t, c, author, m, head, own, want, err)
	return want, err
}

// follows tells where Follow does, and what that answers.
func follows(t *testing.T, c api.Cursor, author int, l []api.Manifest, heads, own []int) (api.Cursor, int, api.Errno) {
	t.Helper()
	want, n, err := mustFollow(c, author, l, heads, own)
	if got, k, e := chain.Follow(c, author, l, heads, own); got != want || k != n || e != err {
		t.Errorf("Follow(%+v, %d, %s, %s, %s) = %+v, %d, %v, not %+v, %d, %v", c, author, brief(l), brief(heads), brief(own), got, k, e, want, n, err)
	}
	return want, n, err
}

// comes tells where Next does, and what that answers.
func comes(t *testing.T, c api.Cursor, author int, turn bool, peer api.Cursor, l []api.Piece) (api.Manifest, api.Errno) {
	t.Helper()
	want, err := mustNext(c, author, turn, peer, l)
	if got, e := chain.Next(c, author, turn, peer, l); !alike(got, want) || e != err {
		t.Errorf("Next(%+v, %d, %v, %+v, %s) = %s, %v, not %s, %v", c, author, turn, peer, brief(l), brief(got), e, brief(want), err)
	}
	return want, err
}

// P13.1: what is accepted, and the cursor behind it.
func TestAccept(t *testing.T) {
	for _, c := range []struct {
		at     api.Cursor
		author int
		m      api.Manifest
		head   int
		own    []int
		want   api.Cursor
	}{
		{at(), 1, next(), 9, own(), cursor(4, 9, 1, 2)},
		{cursor(0, 0, 0, 0), 0, bare(0, 1, 0, 0, 0, 0, 0), 1, nil, cursor(1, 1, 0, 0)},
		{cursor(0, 0, 0, 0), 1, bare(1, 1, 0, 0, 1, 0, 0), 1, nil, cursor(1, 1, 1, 0)},
		{cursor(0, 0, 0, 0), 1, bare(1, 1, 0, 0, 0, 0, 0), 1, []int{4}, cursor(1, 1, 0, 0)},
		{cursor(0, 0, 0, 0), 1, bare(1, 1, 0, 0, 0, 1, 4), 1, []int{4}, cursor(1, 1, 0, 1)},
		{cursor(5, 6, 7, 0), 0, bare(0, 6, 6, 7, 8, 3, 8), 6, own(), cursor(6, 6, 8, 3)},
		{cursor(199, 1<<32-1, 99, 3), 0, bare(0, 200, 1<<32-1, 99, 100, 3, 8), 1<<32 - 1, own(), cursor(200, 1<<32-1, 100, 3)},
		{cursor(199, 1, 100, 0), 0, bare(0, 200, 1, 100, 100, 3, 8), 2, own(), cursor(200, 2, 100, 3)},
		{cursor(3, 0, 0, 0), 0, bare(0, 4, 0, 0, 0, 0, 0), 0, own(), cursor(4, 0, 0, 0)},
		{cursor(3, 0, 0, -5), 0, bare(0, 4, 0, 0, 0, 0, 0), -5, own(), cursor(4, -5, 0, 0)},
	} {
		accepts(t, c.at, c.author, c.m, c.head, c.own, c.want, api.OK)
	}
	// The head is told as it is handed in, whatever that is.
	for _, head := range edges() {
		accepts(t, at(), 1, next(), head, own(), cursor(4, head, 1, 2), api.OK)
		accepts(t, at(), 1, with(func(m *api.Manifest) { m.Next = 2 }), head, own(), cursor(4, head, 2, 2), api.OK)
	}
	for _, l := range [][]api.Piece{nil, {}, rows(1), rows(31), rows(32), {gone("a")}, {file("a", 0, 0)}} {
		accepts(t, at(), 1, with(func(m *api.Manifest) { m.Pieces = l }), 9, own(), cursor(4, 9, 1, 2), api.OK)
	}
}

// P13.1: a manifest that is not right, or another author's.
func TestAcceptForm(t *testing.T) {
	for _, m := range wrongs() {
		for _, author := range []int{0, 1, m.Author} {
			for _, c := range []api.Cursor{at(), cursor(0, 0, 0, 0), cursor(m.Version-1, m.Prev, m.Epoch, 0)} {
				tells(t, c, author, m, own(), api.ErrForm)
			}
		}
	}
	for _, author := range edges() {
		m := next()
		if author != 1 {
			tells(t, at(), author, m, own(), api.ErrForm)
		}
		m.Author = 0
		if author != 0 {
			tells(t, at(), author, m, own(), api.ErrForm)
		}
		// Of an author that is none there is no manifest.
		m.Author = author
		if author != 0 && author != 1 {
			tells(t, at(), author, m, own(), api.ErrForm)
		}
	}
}

// P13.1: versions that are old, next, and too new, at each cursor.
func TestAcceptVersions(t *testing.T) {
	told := func(c, version int, err api.Errno) {
		t.Helper()
		m := with(func(m *api.Manifest) { m.Version = version })
		want := cursor(c, 7, 1, 1)
		if err == api.OK {
			want = cursor(version, 9, 1, 2)
		}
		accepts(t, cursor(c, 7, 1, 1), 1, m, 9, own(), want, err)
	}
	for c := 1; c <= 197; c++ {
		told(c, max(c-1, 1), api.ErrOld)
		told(c, c, api.ErrOld)
		told(c, c+1, api.OK)
		told(c, c+2, api.ErrGap)
		told(c, c+3, api.ErrGap)
		told(c, 1, api.ErrOld)
		told(c, 200, api.ErrGap)
	}
	for version := 1; version <= 200; version++ {
		for _, c := range []int{200, 201, 202, 1 << 31, 1 << 32, api.MaxInt - 1, api.MaxInt} {
			told(c, version, api.ErrOld)
		}
		for _, c := range []int{-1, -2, -3, -200, -1 << 32, api.MinInt + 201, api.MinInt + 1, api.MinInt} {
			told(c, version, api.ErrGap)
		}
	}
	told(0, 1, api.OK)
	told(0, 2, api.ErrGap)
	told(198, 200, api.ErrGap)
	told(199, 200, api.OK)
	told(199, 199, api.ErrOld)
	// The document's example.
	tells(t, cursor(3, 0, 0, 0), 0, bare(0, 5, 0, 0, 0, 0, 0), nil, api.ErrGap)
}

// P13.1: what a manifest is linked to, and which epoch it is sealed in.
func TestAcceptLinks(t *testing.T) {
	for _, n := range edges() {
		c, d := at(), at()
		c.Head, d.Epoch = n, n
		if n != 7 {
			tells(t, c, 1, next(), own(), api.ErrFork)
		}
		if n != 1 {
			tells(t, d, 1, next(), own(), api.ErrEpoch)
		}
		if n >= 0 && n <= api.MaxNumber {
			m := with(func(m *api.Manifest) { m.Prev = n })
			accepts(t, c, 1, m, 9, own(), cursor(4, 9, 1, 2), api.OK)
			if n != 7 {
				tells(t, at(), 1, m, own(), api.ErrFork)
			}
		}
		if n >= 0 && n <= api.MaxEpoch {
			m := with(func(m *api.Manifest) { m.Epoch, m.Next = n, n })
			accepts(t, d, 1, m, 9, own(), cursor(4, 9, n, 2), api.OK)
			if n != 1 {
				tells(t, at(), 1, m, own(), api.ErrEpoch)
			}
		}
	}
	// It is the Epoch that is asked, not the one from then on.
	tells(t, at(), 1, with(func(m *api.Manifest) { m.Epoch, m.Next = 0, 1 }), own(), api.ErrEpoch)
	tells(t, at(), 1, with(func(m *api.Manifest) { m.Epoch, m.Next = 2, 2 }), own(), api.ErrEpoch)
}

// P13.1: what was seen of the own chain, and what was known to be.
func TestAcceptSeen(t *testing.T) {
	told := func(ack, seen, head int, own []int, err api.Errno) {
		t.Helper()
		c := cursor(3, 7, 1, ack)
		m := with(func(m *api.Manifest) { m.Seen, m.SeenHead = seen, head })
		want := c
		if err == api.OK {
			want = cursor(4, 9, 1, seen)
		}
		accepts(t, c, 1, m, 9, own, want, err)
	}
	// Seen is equal to Ack, one less, one more.
	for _, c := range []struct{ ack, seen, head int }{{0, 0, 0}, {1, 1, 5}, {2, 2, 6}, {3, 3, 8}, {0, 1, 5}, {1, 2, 6}, {2, 3, 8}, {0, 3, 8}, {-1, 0, 0}, {api.MinInt, 3, 8}} {
		told(c.ack, c.seen, c.head, own(), api.OK)
	}
	for _, c := range []struct{ ack, seen, head int }{{1, 0, 0}, {2, 1, 5}, {3, 2, 6}, {4, 3, 8}, {3, 0, 0}, {4, 0, 0}, {1 << 32, 3, 8}, {api.MaxInt, 3, 8}, {api.MaxInt, 0, 0}} {
		told(c.ack, c.seen, c.head, own(), api.ErrFork)
	}
	// The head is another version's, or none's.
	for seen := range 6 {
		for head := range 12 {
			err := api.ErrFork
			if seen < 4 && head == []int{0, 5, 6, 8}[seen] {
				err = api.OK
			}
			told(0, seen, head, own(), err)
		}
	}
	// Past the last one there is none; of version 0 it is 0, whatever is there.
	for _, head := range []int{0, 1, 4, 5, 6, 8, 9, api.MaxNumber - 1, api.MaxNumber} {
		for _, seen := range []int{4, 5, 200, 201, 1 << 31, api.MaxNumber} {
			told(0, seen, head, own(), api.ErrFork)
			told(seen, seen, head, own(), api.ErrFork)
		}
		for _, seen := range []int{1, 2, 200, 201, api.MaxNumber} {
			told(0, seen, head, nil, api.ErrFork)
			told(0, seen, head, []int{}, api.ErrFork)
			told(0, seen, head, own()[:0], api.ErrFork)
		}
		if head > 0 {
			told(0, 0, head, nil, api.ErrFork)
			told(0, 0, head, []int{head}, api.ErrFork)
		}
	}
	told(0, 0, 0, nil, api.OK)
	told(0, 0, 0, []int{}, api.OK)
	told(0, 0, 0, []int{-1}, api.OK)
	told(0, 1, 0, []int{0}, api.OK)
	told(0, 2, 4, []int{4, 4}, api.OK)
	told(0, 3, api.MaxNumber, []int{1, 2, api.MaxNumber}, api.OK)
	// What is no digest is none that was seen.
	for _, d := range []int{-1, -2, api.MinInt, api.MaxNumber + 1, 1 << 33, api.MaxInt} {
		for _, head := range []int{0, 1, api.MaxNumber} {
			told(0, 1, head, []int{d}, api.ErrFork)
		}
		told(0, 2, 6, []int{d, 6, d}, api.OK)
	}
	// More than any chain has are looked at, too.
	long := make([]int, 1000)
	long[999] = 3
	told(0, 1000, 3, long, api.OK)
	told(0, 1001, 3, long, api.ErrFork)
	told(0, 999, 3, long, api.ErrFork)
}

// P13.1: of all errors that hold at once, the one that is named first.
func TestAcceptOrder(t *testing.T) {
	old, gap := 1<<2, 1<<3
	for set := range 1 << 8 {
		if set&old > 0 && set&gap > 0 {
			continue
		}
		m, author, want := next(), 1, api.OK
		for i, fault := range []struct {
			err  api.Errno
			make func()
		}{
			{api.ErrForm, func() { m.Pieces[0].Clock = api.Pair{} }},
			{api.ErrForm, func() { author = 0 }},
			{api.ErrOld, func() { m.Version = 3 }},
			{api.ErrGap, func() { m.Version = 5 }},
			{api.ErrFork, func() { m.Prev = 8 }},
			{api.ErrEpoch, func() { m.Epoch, m.Next = 2, 2 }},
			{api.ErrFork, func() { m.Seen, m.SeenHead = 0, 0 }},
			{api.ErrFork, func() { m.SeenHead = 9 }},
		} {
			if set>>i&1 == 0 {
				continue
			}
			if fault.make(); want == api.OK {
				want = fault.err
			}
		}
		got, err := chain.Accept(at(), author, m, 9, own())
		if err != want || err != api.OK && got != at() {
			t.Errorf("faults %08b: %+v, %v, not %v", set, got, err, want)
		}
	}
}

// P13.1: any cursor and any numbers, against the other way.
func TestAcceptEdges(t *testing.T) {
	kinds := map[api.Errno]int{}
	for _, a := range edges() {
		for _, b := range edges() {
			for _, c := range []api.Cursor{cursor(a, b, 1, 1), cursor(3, a, b, 1), cursor(3, 7, a, b), cursor(a, 7, 1, b), at()} {
				for _, m := range []api.Manifest{
					next(), bare(1, a, b, 1, 1, 2, 6), bare(1, 4, a, b, b, 2, 6), bare(1, 4, 7, a, b, 2, 6), bare(1, 4, 7, 1, 1, a, b), bare(a, b, 7, 1, 1, 2, 6),
				} {
					_, err := must(t, c, 1, m, a, []int{5, 6, b})
					kinds[err]++
				}
			}
		}
		if t.Failed() {
			return // one such is enough to read
		}
	}
	for _, err := range []api.Errno{api.OK, api.ErrForm, api.ErrOld, api.ErrGap, api.ErrFork, api.ErrEpoch} {
		if kinds[err] < 50 {
			t.Errorf("too few of a kind: %v", kinds)
		}
	}
}

// story is the first n of author's chain, and their heads, which has seen up to seen of the own ones, and turns its epoch at each second one.
func story(author, n int, own []int) ([]api.Manifest, []int) {
	var l []api.Manifest
	var heads []int
	prev := 0
	for i := range n {
		m := bare(author, i+1, prev, i/2, (i+1)/2, min(i, len(own)), 0)
		if m.Seen > 0 {
			m.SeenHead = own[m.Seen-1]
		}
		if i%5 == 1 {
			m.Pieces = pieces()
		}
		prev = 1000*author + 10 + 3*i
		l, heads = append(l, m), append(heads, prev)
	}
	return l, heads
}

// P13.2: none, a few, and as many as there may be, that are all accepted.
func TestFollow(t *testing.T) {
	for author := range 2 {
		for _, n := range []int{0, 1, 2, 3, 4, 5, 199, 200} {
			l, heads := story(author, n, own())
			want := cursor(0, 0, 0, 0)
			if n > 0 {
				want = cursor(n, heads[n-1], n/2, min(n-1, 3))
			}
			if c, k, err := follows(t, cursor(0, 0, 0, 0), author, l, heads, own()); c != want || k != n || err != api.OK {
				t.Errorf("%d of them: %+v, %d, %v", n, c, k, err)
			}
			// From each place on, in two goes.
			for i := range n {
				c, k, err := follows(t, cursor(0, 0, 0, 0), author, l[:i], heads[:i], own())
				d, j, e := follows(t, c, author, l[i:], heads[i:], own())
				if d != want || k+j != n || err != api.OK || e != api.OK {
					t.Errorf("%d of them, in goes of %d and %d: %+v, %v, %v", n, k, j, d, err, e)
				}
			}
		}
	}
	// Of none any cursor is told as it is.
	for _, n := range edges() {
		for _, l := range [][]api.Manifest{nil, {}} {
			for _, heads := range [][]int{nil, {}, {9}} {
				if c, k, err := chain.Follow(cursor(n, -n, n, n), n, l, heads, own()); c != cursor(n, -n, n, n) || k != 0 || err != api.OK {
					t.Errorf("none, behind %d: %+v, %d, %v", n, c, k, err)
				}
			}
		}
	}
}

// P13.2: each error at each place: those ahead of it are accepted, none behind it is.
func TestFollowErrors(t *testing.T) {
	for _, fault := range []struct {
		err   api.Errno
		spoil func(m *api.Manifest)
	}{
		{api.ErrForm, func(m *api.Manifest) { m.Pieces = rows(33) }},
		{api.ErrForm, func(m *api.Manifest) { m.Author = 1 - m.Author }},
		{api.ErrForm, func(m *api.Manifest) { *m = api.Manifest{} }},
		{api.ErrOld, func(m *api.Manifest) { m.Version-- }},
		{api.ErrGap, func(m *api.Manifest) { m.Version++ }},
		{api.ErrFork, func(m *api.Manifest) { m.Prev++ }},
		{api.ErrEpoch, func(m *api.Manifest) { m.Epoch++; m.Next = m.Epoch }},
		{api.ErrFork, func(m *api.Manifest) { m.SeenHead++ }},
		{api.ErrFork, func(m *api.Manifest) { m.Seen = 4 }},
	} {
		for _, n := range []int{1, 2, 3, 7} {
			for i := range n {
				l, heads := story(1, n, own())
				if l[i].Version == 1 && fault.err == api.ErrOld {
					continue // what is less is not right
				}
				fault.spoil(&l[i])
				want := cursor(0, 0, 0, 0)
				if i > 0 {
					want = cursor(i, heads[i-1], i/2, min(i-1, 3))
				}
				if c, k, err := follows(t, cursor(0, 0, 0, 0), 1, l, heads, own()); c != want || k != i || err != fault.err {
					t.Errorf("one of %d is wrong, at %d: %+v, %d, %v, not %+v, %v", n, i, c, k, err, want, fault.err)
				}
				// What stands behind the first one that is wrong is not asked.
				for j := range l[i+1:] {
					l[i+1+j] = api.Manifest{}
				}
				if c, k, err := follows(t, cursor(0, 0, 0, 0), 1, l, heads, own()); c != want || k != i || err != fault.err {
					t.Errorf("all of %d are wrong, from %d on: %+v, %d, %v, not %+v, %v", n, i, c, k, err, want, fault.err)
				}
			}
		}
	}
	// The same again, one left out, two the other way round, another author's.
	l, heads := story(0, 6, own())
	for _, c := range []struct {
		at  []int
		n   int
		err api.Errno
	}{
		{[]int{0, 0}, 1, api.ErrOld},
		{[]int{0, 1, 2, 2}, 3, api.ErrOld},
		{[]int{0, 1, 2, 0}, 3, api.ErrOld},
		{[]int{1}, 0, api.ErrGap},
		{[]int{0, 1, 3}, 2, api.ErrGap},
		{[]int{0, 2, 1}, 1, api.ErrGap},
		{[]int{5, 4, 3}, 0, api.ErrGap},
		{[]int{0, 1, 2, 3, 4, 5}, 6, api.OK},
		{[]int{0, 1, 2, 3, 4, 5, 5}, 6, api.ErrOld},
	} {
		var some []api.Manifest
		var tops []int
		for _, i := range c.at {
			some, tops = append(some, l[i]), append(tops, heads[i])
		}
		if _, n, err := follows(t, cursor(0, 0, 0, 0), 0, some, tops, own()); n != c.n || err != c.err {
			t.Errorf("%v: %d, %v", c.at, n, err)
		}
		if _, n, err := follows(t, cursor(0, 0, 0, 0), 1, some, tops, own()); n != 0 || err != api.ErrForm {
			t.Errorf("%v of another one: %d, %v", c.at, n, err)
		}
	}
}

// P13.2: fewer heads than manifests, none, and more.
func TestFollowHeads(t *testing.T) {
	for k := range 6 {
		l, heads := story(1, 5, own())
		// What has no head is followed by what is linked to 0 alone.
		if c, n, err := follows(t, cursor(0, 0, 0, 0), 1, l, heads[:k], own()); n != min(k+1, 5) || (err == api.ErrFork) != (k < 4) || k < 5 && c.Head != 0 {
			t.Errorf("%d heads: %+v, %d, %v", k, c, n, err)
		}
		for i := k + 1; i < 5; i++ {
			l[i].Prev = 0
		}
		want := cursor(5, 0, 2, 3)
		if k == 5 {
			want.Head = heads[4]
		}
		if c, n, err := follows(t, cursor(0, 0, 0, 0), 1, l, heads[:k], own()); c != want || n != 5 || err != api.OK {
			t.Errorf("%d heads, and 0: %+v, %d, %v", k, c, n, err)
		}
	}
	l, heads := story(1, 5, own())
	for _, rest := range [][]int{{0}, {1, 2, 3}, {api.MinInt, api.MaxInt}, make([]int, 1000)} {
		if c, n, err := follows(t, cursor(0, 0, 0, 0), 1, l, slices.Concat(heads, rest), own()); c != cursor(5, heads[4], 2, 3) || n != 5 || err != api.OK {
			t.Errorf("%d heads more: %+v, %d, %v", len(rest), c, n, err)
		}
	}
	if c, n, err := chain.Follow(cursor(0, 0, 0, 0), 1, l[:1], nil, nil); c != cursor(1, 0, 0, 0) || n != 1 || err != api.OK {
		t.Errorf("one without a head: %+v, %d, %v", c, n, err)
	}
	// A head that no manifest can be linked to, and the last one, to which none need be.
	for _, head := range []int{api.MinInt, -1, api.MaxNumber + 1, api.MaxInt} {
		if c, n, err := follows(t, cursor(0, 0, 0, 0), 1, l, []int{head}, own()); c != cursor(1, head, 0, 0) || n != 1 || err != api.ErrFork {
			t.Errorf("head %d: %+v, %d, %v", head, c, n, err)
		}
		if c, n, err := follows(t, cursor(0, 0, 0, 0), 1, l, append(slices.Clone(heads[:4]), head), own()); c != cursor(5, head, 2, 3) || n != 5 || err != api.OK {
			t.Errorf("last head %d: %+v, %d, %v", head, c, n, err)
		}
	}
}

// P13.3: each part of what Next makes.
func TestNext(t *testing.T) {
	for _, c := range []struct {
		at     api.Cursor
		author int
		turn   bool
		peer   api.Cursor
		want   api.Manifest
	}{
		{cursor(0, 0, 0, 0), 0, false, cursor(0, 0, 0, 0), bare(0, 1, 0, 0, 0, 0, 0)},
		{cursor(0, 0, 0, 0), 1, true, cursor(0, 0, 0, 0), bare(1, 1, 0, 0, 1, 0, 0)},
		{cursor(3, 7, 1, 9), 1, false, cursor(2, 6, 4, 8), bare(1, 4, 7, 1, 1, 2, 6)},
		{cursor(3, 7, 1, 9), 0, true, cursor(2, 6, 4, 8), bare(0, 4, 7, 1, 2, 2, 6)},
		{cursor(199, 1<<32-1, 99, 0), 1, true, cursor(1<<32-1, 1<<32-1, 0, 0), bare(1, 200, 1<<32-1, 99, 100, 1<<32-1, 1<<32-1)},
		{cursor(199, 1<<32-1, 100, 0), 1, false, cursor(1<<32-1, 1<<32-1, 0, 0), bare(1, 200, 1<<32-1, 100, 100, 1<<32-1, 1<<32-1)},
		// What one's own chain has seen, and the peer's epoch, are not asked.
		{cursor(3, 7, 1, -1), 1, false, cursor(2, 6, -1, -1), bare(1, 4, 7, 1, 1, 2, 6)},
		{cursor(3, 7, 1, api.MaxInt), 1, false, cursor(2, 6, api.MaxInt, api.MinInt), bare(1, 4, 7, 1, 1, 2, 6)},
	} {
		for _, l := range [][]api.Piece{nil, {}, pieces(), rows(1), rows(31), rows(32), {gone("a")}, {file("a", 0, 0)}, {file("a", 0, 1), file("a/b", 0, 1)}} {
			want := c.want
			want.Pieces = l
			if m, err := comes(t, c.at, c.author, c.turn, c.peer, l); !alike(m, want) || err != api.OK {
				t.Errorf("behind %+v: %s, %v", c.at, brief(m), err)
			}
		}
	}
}

// nothing tells where Next does not answer that error, and a zero manifest.
func nothing(t *testing.T, c api.Cursor, author int, turn bool, peer api.Cursor, l []api.Piece, err api.Errno) {
	t.Helper()
	if m, e := chain.Next(c, author, turn, peer, l); !reflect.DeepEqual(m, api.Manifest{}) || e != err {
		t.Errorf("Next(%+v, %d, %v, %+v, %s) = %s, %v, not %v", c, author, turn, peer, brief(l), brief(m), e, err)
	}
}

// P13.3: versions and epochs at their limits, and past them, with turn and without.
func TestNextFull(t *testing.T) {
	none := cursor(0, 0, 0, 0)
	fine := func(version, epoch int, turn bool) {
		t.Helper()
		m, err := chain.Next(cursor(version, 7, epoch, 0), 1, turn, none, pieces())
		after := epoch + map[bool]int{true: 1}[turn]
		if err != api.OK || m.Version != version+1 || m.Epoch != epoch || m.Next != after {
			t.Errorf("behind %d, %d: %s, %v", version, epoch, brief(m), err)
		}
	}
	for version := range 200 {
		fine(version, 99, true)
		fine(version, 100, false)
		nothing(t, cursor(version, 7, 100, 0), 1, true, none, pieces(), api.ErrFull)
		nothing(t, cursor(version, 7, 101, 0), 1, false, none, pieces(), api.ErrFull)
	}
	for epoch := range 101 {
		fine(199, epoch, false)
		fine(199, epoch, epoch < 100)
		nothing(t, cursor(200, 7, epoch, 0), 1, false, none, pieces(), api.ErrFull)
		nothing(t, cursor(200, 7, epoch, 0), 1, true, none, pieces(), api.ErrFull)
	}
	for _, turn := range []bool{false, true} {
		for _, n := range []int{201, 202, 1 << 31, 1 << 32, api.MaxInt - 1, api.MaxInt} {
			nothing(t, cursor(n, 7, 1, 0), 1, turn, none, pieces(), api.ErrFull)
			nothing(t, cursor(3, 7, n, 0), 1, turn, none, pieces(), api.ErrFull)
			nothing(t, cursor(n, 7, n, 0), 1, turn, none, pieces(), api.ErrFull)
			// It is told ahead of what is not right.
			nothing(t, cursor(n, -1, -1, 0), 2, turn, cursor(-1, -1, 0, 0), rows(33), api.ErrFull)
			nothing(t, cursor(-5, -1, n, 0), 2, turn, cursor(-1, -1, 0, 0), rows(33), api.ErrFull)
		}
		nothing(t, cursor(200, -1, 0, 0), 2, turn, none, nil, api.ErrFull)
		nothing(t, cursor(200, 0, 0, 0), 0, turn, none, rows(33), api.ErrFull)
	}
	nothing(t, cursor(-1, 0, 100, 0), 0, true, none, nil, api.ErrFull)
	nothing(t, cursor(-1, 0, 100, 0), 0, false, none, nil, api.ErrForm)
}

// P13.3: what is not right: another author, numbers below 0 or past their limits, and pieces.
func TestNextForm(t *testing.T) {
	c, peer := cursor(3, 7, 1, 0), cursor(2, 6, 0, 0)
	for _, turn := range []bool{false, true} {
		for _, n := range edges() {
			if n != 0 && n != 1 {
				nothing(t, c, n, turn, peer, pieces(), api.ErrForm)
			}
			if n < 0 || n > api.MaxNumber {
				nothing(t, cursor(3, n, 1, 0), 1, turn, peer, pieces(), api.ErrForm)
				nothing(t, c, 1, turn, cursor(n, 6, 0, 0), pieces(), api.ErrForm)
				nothing(t, c, 1, turn, cursor(2, n, 0, 0), pieces(), api.ErrForm)
			}
			if n < 0 {
				nothing(t, cursor(n, 7, 1, 0), 1, turn, peer, pieces(), api.ErrForm)
				nothing(t, cursor(3, 7, n, 0), 1, turn, peer, pieces(), api.ErrForm)
			}
		}
		for _, l := range noPieces() {
			nothing(t, c, 1, turn, peer, l, api.ErrForm)
			nothing(t, cursor(0, 0, 0, 0), 0, turn, cursor(0, 0, 0, 0), l, api.ErrForm)
		}
		for _, a := range edges() {
			for _, b := range edges() {
				comes(t, cursor(a, b, 1, 0), 1, turn, peer, pieces())
				comes(t, cursor(a, 7, b, 0), 0, turn, peer, nil)
				comes(t, cursor(3, a, b, 0), 1, turn, peer, rows(32))
				comes(t, c, a, turn, cursor(b, a, b, a), nil)
				comes(t, c, 1, turn, cursor(a, b, 0, 0), rows(33))
			}
		}
	}
}

// P13.4: which error is fatal.
func TestFatal(t *testing.T) {
	for _, n := range append(edges(), 2, 3, 5, 9, 10, 11, 12, 13, 14, 15, 11-1<<32, 11+1<<32) {
		if got := chain.Fatal(api.Errno(n)); got != (n == 11) {
			t.Errorf("Fatal(%d) = %v", n, got)
		}
	}
	if !chain.Fatal(api.ErrFork) || chain.Fatal(api.OK) || chain.Fatal(api.ErrEpoch) || chain.Fatal(api.ErrGap) || chain.Fatal(api.ErrHalt) {
		t.Error("not that of another history alone")
	}
}

// replica is one of two authors: its own chain, and how far it accepted the peer's.
type replica struct {
	author int
	chain  api.Cursor
	own    []int
	peer   api.Cursor
	all    []api.Manifest
}

// publish has r make its next manifest, whose digest is head.
func (r *replica) publish(t *testing.T, turn bool, l []api.Piece, head int) api.Errno {
	t.Helper()
	m, err := comes(t, r.chain, r.author, turn, r.peer, l)
	if err != api.OK {
		return err
	}
	r.chain = cursor(m.Version, head, m.Next, 0)
	r.all, r.own = append(r.all, m), append(r.own, head)
	return api.OK
}

// fetch has r follow what o published, from a place on.
func (r *replica) fetch(t *testing.T, o *replica, from int) (int, api.Errno) {
	t.Helper()
	c, n, err := follows(t, r.peer, o.author, o.all[from:], o.own[from:], r.own)
	r.peer = c
	return n, err
}

// P13.5: what Next makes is accepted next, to the end of both chains, however many are fetched at once.
func TestNextIsAccepted(t *testing.T) {
	for step := 1; step <= 7; step++ {
		a, b := &replica{author: 0}, &replica{author: 1}
		for i := range 200 {
			if err := a.publish(t, i%2 == 0, rows(i%33), 1+2*i); err != api.OK {
				t.Fatal(i, err)
			}
			if err := b.publish(t, i >= 100, pieces(), 2+2*i); err != api.OK {
				t.Fatal(i, err)
			}
			if i%step == 0 {
				from := a.peer.Version
				if n, err := a.fetch(t, b, from); n != i+1-from || err != api.OK {
					t.Fatal(i, n, err)
				}
			}
			if i%3 == 0 {
				from := b.peer.Version
				if n, err := b.fetch(t, a, from); n != i+1-from || err != api.OK {
					t.Fatal(i, n, err)
				}
			}
			if n, err := b.fetch(t, a, 0); n != 0 || err != api.ErrOld && b.peer.Version > 0 {
				t.Fatal("again:", n, err)
			}
		}
		for _, r := range []*replica{a, b} {
			if r.chain.Version != 200 || r.chain.Epoch != 100 || r.publish(t, false, nil, 0) != api.ErrFull {
				t.Errorf("the end: %+v", r.chain)
			}
		}
	}
}

// P13.5: whatever is answered, what is accepted has rising versions, without a gap, or a repeat, each linked to the one ahead.
func TestAnyAnswers(t *testing.T) {
	r := rand.New(rand.NewSource(13))
	total := 0
	for range 300 {
		l, heads := story(1, 12, own())
		// Another history, from some place on, and manifests with one number changed.
		fork := r.Intn(12)
		for i := fork; i < 12; i++ {
			m := deep(l[i])
			if i > fork {
				m.Prev += 5000
			}
			m.Pieces = rows(3)
			l, heads = append(l, m), append(heads, heads[i]+5000)
		}
		for range 10 {
			l, heads = append(l, near(l[r.Intn(24-fork)], r.Intn(7), r.Intn(4)-1)), append(heads, 9000+r.Intn(3))
		}
		var c api.Cursor
		var done []api.Manifest
		for range 300 {
			i := r.Intn(len(l))
			d, err := must(t, c, 1, l[i], heads[i], own())
			if err != api.OK {
				continue
			}
			if l[i].Version != len(done)+1 || l[i].Prev != c.Head || l[i].Epoch != c.Epoch || d.Head != heads[i] || l[i].Seen < c.Ack {
				t.Fatalf("%s is accepted behind %+v", brief(l[i]), c)
			}
			c, done = d, append(done, l[i])
		}
		total += len(done)
	}
	if total < 1000 {
		t.Error("too few were accepted:", total)
	}
}

// near is m, with one of its numbers changed.
func near(m api.Manifest, part, by int) api.Manifest {
	m = deep(m)
	*[]*int{&m.Author, &m.Version, &m.Prev, &m.Epoch, &m.Next, &m.Seen, &m.SeenHead}[part] += by
	return m
}

// behind is l, with spare room behind it, in which something stands.
func behind[T any](l []T, more ...T) []T {
	return append(slices.Clone(l), more...)[:len(l)]
}

// roomy has pieces with spare room behind each list.
func roomy(l []api.Piece) []api.Piece {
	l = behind(l, file("z", 1, 2, 3), gone("A"))
	for i, p := range l {
		l[i].Chunks = behind(p.Chunks, 77, 78, -1)
	}
	return l
}

// everything is all that pieces have, in their spare rooms too.
func everything(l []api.Piece) []api.Piece {
	l = slices.Clone(l[:cap(l)])
	for i, p := range l {
		l[i].Chunks = slices.Clone(p.Chunks[:cap(p.Chunks)])
	}
	return l
}

// spoil writes over all of them, first in the depths.
func spoil(l []api.Piece) {
	l = l[:cap(l)]
	for i := range l {
		c := l[i].Chunks[:cap(l[i].Chunks)]
		for j := range c {
			c[j] = -99
		}
		l[i] = api.Piece{Path: "spoilt", Has: true, Size: -99, Chunks: []int{-99}, Digest: -99}
	}
}

// P13.4: what is handed in stays as it is, in all depths, its spare room too.
func TestArgumentsStay(t *testing.T) {
	for _, n := range []int{0, 1, 5, 12} {
		for wrong := range n + 1 {
			l, heads := story(1, n, own())
			if wrong < n {
				l[wrong].Version++
			}
			for i := range l {
				l[i].Pieces = roomy(l[i].Pieces)
			}
			l, heads = behind(l, next(), api.Manifest{Version: -1}), behind(heads, 66, 67)
			mine := behind(own(), 68, 69)
			var want []api.Manifest
			for _, m := range l[:cap(l)] {
				m.Pieces = everything(m.Pieces)
				want = append(want, m)
			}
			tops, digests := slices.Clone(heads[:cap(heads)]), slices.Clone(mine[:cap(mine)])
			chain.Follow(cursor(0, 0, 0, 0), 1, l, heads, mine)
			for _, m := range l {
				chain.Accept(cursor(m.Version-1, m.Prev, m.Epoch, m.Seen), 1, m, 9, mine)
			}
			for i, m := range l[:cap(l)] {
				if m.Pieces = everything(m.Pieces); !reflect.DeepEqual(m, want[i]) {
					t.Fatalf("%s became %s", brief(want[i]), brief(m))
				}
			}
			if !slices.Equal(heads[:cap(heads)], tops) || !slices.Equal(mine[:cap(mine)], digests) {
				t.Fatalf("digests became %v, %v", heads[:cap(heads)], mine[:cap(mine)])
			}
		}
	}
	for _, l := range append(noPieces(), nil, pieces(), rows(32)) {
		l = roomy(l)
		want := everything(l)
		chain.Next(at(), 1, true, cursor(2, 6, 0, 0), l)
		chain.Next(cursor(200, 0, 0, 0), 1, true, cursor(2, 6, 0, 0), l)
		if !reflect.DeepEqual(everything(l), want) {
			t.Fatalf("%s became %s", brief(want), brief(everything(l)))
		}
	}
}

// P13.4: who changes what was handed in to Next, or answered by it, changes nothing else.
func TestAnswersApart(t *testing.T) {
	for _, l := range [][]api.Piece{pieces(), rows(1), rows(32)} {
		peer := cursor(2, 6, 0, 0)
		want, err := mustNext(at(), 1, true, peer, roomy(l))
		if err != api.OK {
			t.Fatal(err)
		}
		handed := roomy(l)
		one, _ := chain.Next(at(), 1, true, peer, handed)
		two, _ := chain.Next(at(), 1, true, peer, handed)
		spoil(two.Pieces)
		if !alike(one, want) || !reflect.DeepEqual(handed, roomy(l)) {
			t.Fatalf("an answer that is changed changes another thing: %s", brief(one))
		}
		spoil(handed)
		if !alike(one, want) {
			t.Fatalf("an answer shares what was handed in: %s", brief(one))
		}
	}
}

// P13.4: no two lists of one answer share any memory, where those that are handed in do.
func TestListsApart(t *testing.T) {
	l := []int{1, 2, 3, 4, 5, 6, 7, 8, 9, 10}
	shared := []api.Piece{file("a", 600, 1), file("b", 600, 1), file("c", 129, 1), file("d", 64, 1)}
	shared[0].Chunks, shared[1].Chunks, shared[2].Chunks, shared[3].Chunks = l, l, l[4:7], l[9:]
	m, err := chain.Next(at(), 1, false, cursor(0, 0, 0, 0), shared)
	if err != api.OK {
		t.Fatal(err)
	}
	for i, p := range m.Pieces {
		c := p.Chunks[:cap(p.Chunks)]
		for j := range c {
			c[j] = -99
		}
		for j, q := range m.Pieces[i+1:] {
			if !slices.Equal(q.Chunks, shared[i+1+j].Chunks) {
				t.Errorf("the chunks of pieces %d and %d share memory", i, i+1+j)
			}
		}
	}
	if !slices.Equal(l, []int{1, 2, 3, 4, 5, 6, 7, 8, 9, 10}) {
		t.Error("what was handed in is shared")
	}
}

// shares tells whether two strings have bytes in the same place.
func shares(a, b string) bool {
	if a == "" || b == "" {
		return false
	}
	p, q := uintptr(unsafe.Pointer(unsafe.StringData(a))), uintptr(unsafe.Pointer(unsafe.StringData(b)))
	return p < q+uintptr(len(b)) && q < p+uintptr(len(a))
}

// P13.4: paths that are answered are of new memory, too.
func TestPathsNew(t *testing.T) {
	l := rows(32)
	one, _ := chain.Next(at(), 1, false, cursor(0, 0, 0, 0), l)
	two, _ := chain.Next(at(), 1, false, cursor(0, 0, 0, 0), l)
	for i, p := range l {
		if a, b := one.Pieces[i].Path, two.Pieces[i].Path; a != p.Path || b != p.Path || shares(a, p.Path) || shares(b, p.Path) || shares(a, b) {
			t.Fatalf("%q, %q of %q", a, b, p.Path)
		}
	}
}

// P13.1 to P13.3: nil lists and empty ones are the same.
func TestNoLists(t *testing.T) {
	empty := make([]api.Piece, 0, 5)
	m, err := chain.Next(cursor(0, 0, 0, 0), 0, false, cursor(0, 0, 0, 0), nil)
	n, e := chain.Next(cursor(0, 0, 0, 0), 0, false, cursor(0, 0, 0, 0), empty)
	if !alike(m, n) || err != api.OK || e != api.OK {
		t.Errorf("no pieces: %s, %v and %s, %v", brief(m), err, brief(n), e)
	}
	for _, l := range [][]api.Piece{nil, empty} {
		m.Pieces = l
		for _, own := range [][]int{nil, {}, make([]int, 0, 5)} {
			accepts(t, cursor(0, 0, 0, 0), 0, m, 9, own, cursor(1, 9, 0, 0), api.OK)
			for _, heads := range [][]int{nil, {}, make([]int, 0, 5)} {
				if c, k, err := chain.Follow(cursor(0, 0, 0, 0), 0, []api.Manifest{m}, heads, own); c != cursor(1, 0, 0, 0) || k != 1 || err != api.OK {
					t.Errorf("no heads: %+v, %d, %v", c, k, err)
				}
			}
		}
	}
}

// P13.1 to P13.3: what is answered hangs on nothing that was asked ahead of it.
func TestAgain(t *testing.T) {
	l, heads := story(1, 5, own())
	for range 3 {
		accepts(t, at(), 1, next(), 9, own(), cursor(4, 9, 1, 2), api.OK)
		tells(t, at(), 1, with(func(m *api.Manifest) { m.Prev = 8 }), own(), api.ErrFork)
		follows(t, cursor(0, 0, 0, 0), 1, l, heads, own())
		follows(t, at(), 1, l, heads, own())
		comes(t, at(), 1, true, cursor(2, 6, 0, 0), pieces())
		nothing(t, at(), 2, true, cursor(2, 6, 0, 0), pieces(), api.ErrForm)
	}
}

// source is numbers that are made of bytes, small ones often.
type source struct{ b []byte }

func (s *source) byte() int {
	if len(s.b) == 0 {
		return 0
	}
	n := int(s.b[0])
	s.b = s.b[1:]
	return n
}

// pick is fine, or now and then another number.
func (s *source) pick(fine int) int {
	all := edges()
	switch n := s.byte(); {
	case n < 200:
		return fine
	case n < 230:
		return fine + n - 215
	case n < 250:
		return n - 230
	}
	return all[s.byte()%len(all)]
}

// holds tells where a chain that is made of bytes is not followed, or gone on with, as the promises say.
func holds(t *testing.T, b []byte) api.Errno {
	t.Helper()
	s := &source{b}
	c := cursor(s.pick(s.byte()%200), s.pick(7), s.pick(s.byte()%100), s.pick(0))
	first, author := c, s.pick(1)
	var mine, heads []int
	for range s.byte() % 8 {
		mine = append(mine, s.pick(s.byte()))
	}
	var l []api.Manifest
	for range s.byte() % 8 {
		m := bare(s.pick(author), s.pick(c.Version+1), s.pick(c.Head), s.pick(c.Epoch), s.pick(c.Epoch+s.byte()%2), s.pick(min(max(c.Ack, 0)+s.byte()%2, len(mine))), 0)
		if m.Seen > 0 && m.Seen <= len(mine) {
			m.SeenHead = mine[m.Seen-1]
		}
		m.SeenHead = s.pick(m.SeenHead)
		if kind := s.byte(); kind > 128 {
			m.Pieces = rows(kind % 36)
		}
		head := s.pick(s.byte())
		must(t, first, author, m, head, mine)
		c, _ = must(t, c, author, m, head, mine)
		l, heads = append(l, m), append(heads, head)
	}
	heads = heads[:s.pick(len(heads))&7%(len(heads)+1)]
	_, _, err := follows(t, first, author, l, heads, mine)
	turn, peer := s.byte()%2 == 1, cursor(s.pick(2), s.pick(6), s.pick(0), s.pick(0))
	m, e := comes(t, first, author, turn, peer, rows(s.byte()%36))
	if e == api.OK {
		// P13.5: what Next makes is accepted next, of whoever knows what was seen.
		known := []int{5, 6, 8, 9}
		if peer.Version == 0 && peer.Head == 0 || peer.Version > 0 && peer.Version <= 4 && peer.Head == known[peer.Version-1] {
			first.Ack = min(first.Ack, m.Seen)
			accepts(t, first, author, m, 9, known, cursor(m.Version, 9, m.Next, m.Seen), api.OK)
		}
	}
	return err
}

// P13.1 to P13.5: chains at random.
func TestAtRandom(t *testing.T) {
	r := rand.New(rand.NewSource(31))
	kinds := map[api.Errno]int{}
	for range 20000 {
		b := make([]byte, r.Intn(200))
		r.Read(b)
		most := 200 + r.Intn(56)
		for i := range b {
			b[i] = min(b[i], byte(most))
		}
		kinds[holds(t, b)]++
		if t.Failed() {
			return // one such is enough to read
		}
	}
	for _, err := range []api.Errno{api.OK, api.ErrForm, api.ErrOld, api.ErrGap, api.ErrFork, api.ErrEpoch} {
		if kinds[err] < 20 {
			t.Errorf("too few of a kind: %v", kinds)
		}
	}
}

// FuzzChains holds all calls against the other ways, at any chain.
func FuzzChains(f *testing.F) {
	f.Add([]byte{})
	f.Add([]byte{3, 0, 0, 1, 0, 0, 0, 3, 5, 0, 6, 0, 8, 0, 4})
	f.Add(slices.Repeat([]byte{3, 255, 7, 215, 100}, 40))
	f.Fuzz(func(t *testing.T, b []byte) { holds(t, b) })
}
