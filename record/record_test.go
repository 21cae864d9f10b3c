package record_test

import (
	"encoding/binary"
	"fmt"
	"math/rand"
	"reflect"
	"regexp"
	"slices"
	"strings"
	"testing"
	"unsafe"

	"carpetbag/api"
	"carpetbag/record"
)

// pair is a clock's two counts.
func pair(left, right int) api.Pair { return api.Pair{Left: left, Right: right} }

// file is a piece with a file of a size, with as many chunks as that has; gone is one without.
func file(path string, size, digest int, chunks ...int) api.Piece {
	return api.Piece{Path: path, Has: true, Size: size, Digest: digest, Chunks: chunks, Clock: pair(0, 1)}
}

func gone(path string) api.Piece { return api.Piece{Path: path, Clock: pair(1, 0)} }

// run is n numbers, from one on.
func run(from, n int) []int {
	var l []int
	for i := range n {
		l = append(l, from+i)
	}
	return l
}

// at is the i-th of many rising paths.
func at(i int) string { return fmt.Sprintf("d/%c/%c", 'a'+i/8, 'a'+i%8) }

// rows is n pieces, each third one without a file.
func rows(n int) []api.Piece {
	var l []api.Piece
	for i := range n {
		if i%3 == 2 {
			l = append(l, gone(at(i)))
		} else {
			l = append(l, file(at(i), i, i, run(100*i, (i+63)/64)...))
		}
	}
	return l
}

// some is a right manifest with four pieces, in which no two numbers of one depth are the same but Version and Seen, and Epoch and Prev.
func some() api.Manifest {
	return api.Manifest{Author: 1, Version: 2, Prev: 3, Epoch: 3, Next: 4, Seen: 2, SeenHead: 6, Pieces: []api.Piece{
		{Path: "a", Has: true, Size: 130, Chunks: []int{7, 8, 9}, Digest: 5, Clock: pair(2, 3)},
		{Path: "a/b", Has: true, Size: 65, Chunks: []int{10, 11}, Digest: 12, Clock: pair(0, 1)},
		{Path: "b", Clock: pair(1, 0)},
		{Path: "c", Has: true, Digest: 13, Clock: pair(1, 4)},
	}}
}

// of is some with those pieces alone.
func of(l ...api.Piece) api.Manifest {
	m := some()
	m.Pieces = l
	return m
}

// deep is m, of new memory in all depths, with nil lists for empty ones.
func deep(m api.Manifest) api.Manifest {
	m.Pieces = append([]api.Piece(nil), m.Pieces...)
	for i, p := range m.Pieces {
		m.Pieces[i].Path = strings.Clone(p.Path)
		m.Pieces[i].Chunks = append([]int(nil), p.Chunks...)
	}
	return m
}

// alike tells by another way whether all parts are.
func alike(a, b api.Manifest) bool { return reflect.DeepEqual(deep(a), deep(b)) }

var name = regexp.MustCompile(`^[a-z0-9.-]{1,12}$`)

// isPath tells by another way what a path is.
func isPath(s string) bool {
	names := strings.Split(s, "/")
	for _, n := range names {
		if !name.MatchString(n) || n == "." || n == ".." {
			return false
		}
	}
	return len(names) <= 4
}

// isRight tells by another way what a right manifest is.
func isRight(m api.Manifest) bool {
	const most = 4294967295
	if m.Author != 0 && m.Author != 1 || m.Version < 1 || m.Version > 200 || len(m.Pieces) > 32 {
		return false
	}
	for _, n := range []int{m.Prev, m.Seen, m.SeenHead} {
		if n < 0 || n > most {
			return false
		}
	}
	if m.Epoch < 0 || m.Epoch > 100 || m.Next < 0 || m.Next > 100 || m.Next-m.Epoch != 0 && m.Next-m.Epoch != 1 {
		return false
	}
	for i, p := range m.Pieces {
		if !isPath(p.Path) || i > 0 && strings.Compare(m.Pieces[i-1].Path, p.Path) >= 0 {
			return false
		}
		c := p.Clock
		if c.Left < 0 || c.Right < 0 || c.Left > 1073741824 || c.Right > 1073741824 || c.Left == 0 && c.Right == 0 {
			return false
		}
		if !p.Has && (p.Size != 0 || p.Digest != 0 || len(p.Chunks) > 0) {
			return false
		}
		for _, n := range append(slices.Clone(p.Chunks), p.Digest) {
			if n < 0 || n > most {
				return false
			}
		}
		// So many chunks that all but the last one are full, and that one is not empty.
		if n := len(p.Chunks); p.Size < 0 || p.Size > 600 || p.Size > 64*n || p.Size <= 64*(n-1) && n > 0 {
			return false
		}
	}
	return true
}

// number is a number's bytes, written by another way.
func number(n int) string {
	return string(binary.BigEndian.AppendUint32(nil, uint32(max(min(n, 4294967295), 0))))
}

func numbers(l ...int) string {
	var s strings.Builder
	for _, n := range l {
		s.WriteString(number(n))
	}
	return s.String()
}

// text is a string's bytes.
func text(s string) string { return number(min(len(s), 16384)) + s[:min(len(s), 16384)] }

// mustBytes tells by another way what Bytes answers.
func mustBytes(m api.Manifest) string {
	var s strings.Builder
	s.WriteString(numbers(m.Author, m.Version, m.Prev, m.Epoch, m.Next, m.Seen, m.SeenHead, len(m.Pieces)))
	for _, p := range m.Pieces {
		has := map[bool]int{true: 1}[p.Has]
		s.WriteString(text(p.Path) + numbers(has, p.Size, p.Digest, p.Clock.Left, p.Clock.Right, len(p.Chunks)) + numbers(p.Chunks...))
	}
	return s.String()
}

// taker takes numbers and strings off a string's beginning; what is not there is -1, or empty.
type taker struct {
	s string
}

func (k *taker) number() int {
	if len(k.s) < 4 {
		k.s = ""
		return -1
	}
	n := binary.BigEndian.Uint32([]byte(k.s[:4]))
	k.s = k.s[4:]
	return int(n)
}

func (k *taker) text() string {
	n := k.number()
	if n < 0 || n > len(k.s) {
		return ""
	}
	s := k.s[:n]
	k.s = k.s[n:]
	return s
}

// mustRead tells by another way what Read answers: it takes what may be there, whatever that is, and writes it again.
func mustRead(s string) (api.Manifest, api.Errno) {
	k := &taker{s}
	m := api.Manifest{}
	for _, n := range []*int{&m.Author, &m.Version, &m.Prev, &m.Epoch, &m.Next, &m.Seen, &m.SeenHead} {
		*n = k.number()
	}
	for range min(k.number(), 40) {
		p := api.Piece{Path: k.text()}
		p.Has = k.number() == 1
		p.Size, p.Digest, p.Clock.Left, p.Clock.Right = k.number(), k.number(), k.number(), k.number()
		for range min(k.number(), 40) {
			p.Chunks = append(p.Chunks, k.number())
		}
		m.Pieces = append(m.Pieces, p)
	}
	if !isRight(m) || mustBytes(m) != s {
		return api.Manifest{}, api.ErrForm
	}
	return m, api.OK
}

// mustChunks tells by another way what Chunks answers.
func mustChunks(m api.Manifest) []int {
	var l []int
	for i := range m.Pieces {
		for j := range m.Pieces[i].Chunks {
			l = append(l, m.Pieces[i].Chunks[j])
		}
	}
	return l
}

// brief is what a message has of something, however long that is.
func brief(x any) string {
	s := fmt.Sprintf("%+v", x)
	if len(s) > 300 {
		s = s[:300] + " and more"
	}
	return s
}

// reads tells where Read answers otherwise than it must.
func reads(t *testing.T, what, s string, want api.Manifest, err api.Errno) {
	t.Helper()
	if got, e := record.Read(s); !alike(got, want) || e != err {
		t.Errorf("%s: Read(%.200q) = %s, %v, not %s, %v", what, s, brief(got), e, brief(want), err)
	}
}

// none tells where Read does not refuse s.
func none(t *testing.T, what, s string) {
	t.Helper()
	reads(t, what, s, api.Manifest{}, api.ErrForm)
}

// follows tells where what comes of m is not as the promises say, by other ways.
func follows(t *testing.T, what string, m api.Manifest) {
	t.Helper()
	if got := record.Right(m); got != isRight(m) {
		t.Errorf("%s: Right(%s) = %v", what, brief(m), got)
	}
	s := record.Bytes(m)
	if s != mustBytes(m) {
		t.Errorf("%s: Bytes(%s) = %.300q", what, brief(m), s)
	}
	if l := record.Chunks(m); !slices.Equal(l, mustChunks(m)) {
		t.Errorf("%s: Chunks(%s) = %s", what, brief(m), brief(l))
	}
	if c := record.Copy(m); !alike(c, m) || !record.Same(c, m) || !record.Same(m, c) {
		t.Errorf("%s: Copy(%s) = %s", what, brief(m), brief(c))
	}
	want, err := mustRead(s)
	reads(t, what, s, want, err)
	// P12.5: what is right is read as it was.
	if isRight(m) && (!alike(want, m) || err != api.OK) {
		t.Errorf("%s: %s is read as %s", what, brief(m), brief(want))
	}
	if t.Failed() {
		t.FailNow() // one such is enough to read
	}
}

// edges are numbers at the ends of what any part of a manifest may have, and beyond.
func edges() []int {
	l := []int{api.MinInt, api.MinInt + 1, -1 << 32, -1 << 31, api.MaxInt - 1, api.MaxInt}
	for _, n := range []int{0, 2, 4, 64, 100, 128, 200, 256, 600, 640, 1 << 14, 1 << 16, 1 << 30, 1 << 31, 1 << 32} {
		l = append(l, n-1, n, n+1)
	}
	return l
}

// sizes are pieces that have as many chunks as Count says of a size, one fewer, one more, and many more.
func sizes() []api.Piece {
	var l []api.Piece
	for _, n := range []int{0, 1, 2, 63, 64, 65, 127, 128, 129, 575, 576, 577, 599, 600, 601, 640, 641, -1, -63, -64, -65, api.MinInt, api.MaxInt} {
		count := 0
		if n > 0 {
			count = (n-1)/64 + 1
		}
		for _, c := range []int{count - 1, count, count + 1, 0, 1, 100} {
			if c >= 0 && c <= 100 {
				l = append(l, file("p", n, 1, run(1, c)...))
			}
		}
	}
	return l
}

// rights are manifests that are right.
func rights() []api.Manifest {
	most := run(api.MaxNumber-9, 10)
	all := []api.Manifest{
		{Version: 1},
		{Author: 1, Version: 1},
		{Author: 1, Version: 2},
		{Version: 1, Pieces: []api.Piece{}},
		{Author: 1, Version: 200, Prev: api.MaxNumber, Epoch: 100, Next: 100, Seen: api.MaxNumber, SeenHead: api.MaxNumber},
		{Version: 200, Epoch: 99, Next: 100},
		{Version: 1, Next: 1},
		some(),
		of(),
		of(gone("a")),
		of(file("a", 0, 0)),
		of(api.Piece{Path: "a", Has: true, Chunks: []int{}, Clock: pair(1, 0)}),
		of(api.Piece{Path: "a", Chunks: []int{}, Clock: pair(1, 0)}),
		of(file("a", 600, api.MaxNumber, most...)),
		of(file("a", 64, 1, 0)),
		of(file("a", 65, 1, 0, 0)),
		of(file("a", 1, 1, api.MaxNumber), file("b", 1, 1, api.MaxNumber)),
		// A file in the way of another one is the archive's matter.
		of(file("a", 0, 1), file("a/b", 0, 1), file("a/b/c", 0, 1), file("a/b/c/d", 0, 1)),
		of(gone("-"), gone("--"), gone("-."), gone("..."), gone("0"), gone("9"), gone("a"), gone("a-"), gone("a.b"), gone("a/b"), gone("z"), gone("zz")),
		of(gone("abcdefghijkl/abcdefghijkl/abcdefghijkl/abcdefghijkl")),
		of(rows(31)...),
		of(rows(32)...),
	}
	full := of()
	for i := range 32 {
		full.Pieces = append(full.Pieces, file(at(i), 600, api.MaxNumber-i, most...))
	}
	all = append(all, full)
	for _, c := range []api.Pair{pair(1, 0), pair(0, 1), pair(1, 1), pair(1<<30, 0), pair(0, 1<<30), pair(1<<30, 1<<30), pair(1<<30-1, 2)} {
		p, q := file("a", 0, 1), gone("b")
		p.Clock, q.Clock = c, c
		all = append(all, of(p, q))
	}
	return all
}

// noPaths are strings that are none.
func noPaths() []string {
	return []string{
		"", ".", "..", "/", "A", "a b", "/a", "a/", "a//b", "a/.", "a/../b", "a/b/c/d/", "a/b/c/d/e", "a\x00", "\xff", "ä", "abcdefghijklm",
		strings.Repeat("x", 16383), strings.Repeat("x", 16384), strings.Repeat("x", 16385), strings.Repeat("x", 1<<16),
	}
}

// wrongs are manifests that are not right.
func wrongs() []api.Manifest {
	all := []api.Manifest{
		{},
		{Author: 1},
		{Author: 2, Version: 1},
		{Author: -1, Version: 1},
		{Version: 201},
		{Version: -1},
		of(rows(33)...),
		of(rows(64)...),
		of(make([]api.Piece, 1)...),
		of(make([]api.Piece, 32)...),
		of(gone("b"), gone("a")),
		of(gone("a"), gone("a")),
		of(gone("a"), file("a", 0, 1)),
		of(gone("a"), gone("c"), gone("b")),
		of(gone("a"), gone("b"), gone("b")),
		of(gone("b"), gone("b"), gone("c")),
		of(gone("a/b"), gone("a.b")),
		of(gone("b"), gone("a/c")),
		of(gone("z"), gone("10"), gone("9")),
		of(api.Piece{Path: "a"}),
		of(api.Piece{Path: "a", Has: true}),
		of(gone("a"), api.Piece{Path: "b"}),
	}
	for _, s := range noPaths() {
		all = append(all, of(gone(s)), of(file(s, 0, 1)), of(gone("-"), file(s, 1, 1, 1)), of(gone(s), gone("zz")))
	}
	for _, c := range []api.Pair{pair(-1, 1), pair(1, -1), pair(0, -1), pair(-1, 0), pair(1<<30+1, 1), pair(1, 1<<30+1), pair(api.MinInt, 1), pair(1, api.MaxInt), pair(1<<32, 0), pair(0, 1<<32+1)} {
		p, q := file("a", 0, 1), gone("b")
		p.Clock = c
		all = append(all, of(p, q))
		p.Clock, q.Clock = q.Clock, c
		all = append(all, of(p, q))
	}
	for _, p := range []api.Piece{
		{Size: 1}, {Size: -1}, {Size: 600}, {Digest: 1}, {Digest: -1}, {Digest: api.MaxNumber}, {Chunks: []int{0}}, {Chunks: []int{1}},
		{Size: 1, Chunks: []int{1}}, {Size: 1, Digest: 1, Chunks: []int{1}}, {Size: 65, Digest: 1, Chunks: []int{1, 2}},
	} {
		p.Path, p.Clock = "b", pair(1, 1)
		all = append(all, of(p), of(gone("a"), p), of(p, file("c", 1, 1, 1)))
	}
	for _, n := range []int{-1, 1 << 32, api.MinInt, api.MaxInt} {
		all = append(all, of(file("a", 0, n)), of(file("a", 1, 0, n)), of(file("a", 129, 0, 1, n, 2)), of(file("a", 600, 0, append(run(0, 9), n)...)))
	}
	return all
}

// parts are all numbers of a manifest, in all depths, by their names.
func parts(m *api.Manifest) map[string]*int {
	all := map[string]*int{"Author": &m.Author, "Version": &m.Version, "Prev": &m.Prev, "Epoch": &m.Epoch, "Next": &m.Next, "Seen": &m.Seen, "SeenHead": &m.SeenHead}
	for i := range m.Pieces {
		p := &m.Pieces[i]
		all[fmt.Sprint("Size ", i)], all[fmt.Sprint("Digest ", i)] = &p.Size, &p.Digest
		all[fmt.Sprint("Left ", i)], all[fmt.Sprint("Right ", i)] = &p.Clock.Left, &p.Clock.Right
		for j := range p.Chunks {
			all[fmt.Sprint("Chunk ", i, " ", j)] = &p.Chunks[j]
		}
	}
	return all
}

// P12.1: the manifests that are right, and those that are not.
func TestRight(t *testing.T) {
	for _, m := range rights() {
		if !record.Right(m) || !isRight(m) {
			t.Errorf("%s is not right", brief(m))
		}
	}
	for _, m := range wrongs() {
		if record.Right(m) || isRight(m) {
			t.Errorf("%s is right", brief(m))
		}
	}
}

// P12.1: each number of a manifest itself, at its limits and beyond them.
func TestRightNumbers(t *testing.T) {
	for _, c := range []struct {
		part        string
		least, most int
	}{
		{"Author", 0, 1},
		{"Version", 1, 200},
		{"Prev", 0, 4294967295},
		{"Seen", 0, 4294967295},
		{"SeenHead", 0, 4294967295},
		{"Next", 3, 4},
		{"Epoch", 3, 4},
		{"Digest 0", 0, 4294967295},
		{"Digest 2", 0, 0},
		{"Size 0", 129, 192},
		{"Size 2", 0, 0},
		{"Size 3", 0, 0},
		{"Chunk 0 0", 0, 4294967295},
		{"Chunk 0 2", 0, 4294967295},
		{"Chunk 1 1", 0, 4294967295},
		{"Left 0", 0, 1 << 30},
		{"Right 0", 0, 1 << 30},
		{"Right 1", 1, 1 << 30},
		{"Left 2", 1, 1 << 30},
	} {
		for _, n := range append(edges(), c.least-1, c.least, c.most, c.most+1) {
			m := some()
			*parts(&m)[c.part] = n
			if want := n >= c.least && n <= c.most; record.Right(m) != want {
				t.Errorf("with %s %d Right is %v", c.part, n, !want)
			}
		}
	}
}

// P12.1: Epoch and Next from 0 to MaxEpoch, and Next the same, or one more.
func TestRightEpochs(t *testing.T) {
	for epoch := -3; epoch < 105; epoch++ {
		for next := -3; next < 105; next++ {
			m := some()
			m.Epoch, m.Next = epoch, next
			want := epoch >= 0 && epoch <= 100 && next <= 100 && (next == epoch || next == epoch+1)
			if record.Right(m) != want {
				t.Errorf("with Epoch %d and Next %d Right is %v", epoch, next, !want)
			}
		}
	}
	for _, n := range edges() {
		for _, k := range edges() {
			m := some()
			m.Epoch, m.Next = n, k
			follows(t, "epochs", m)
			m.Epoch, m.Next = n, n+k%4
			follows(t, "epochs near each other", m)
		}
	}
}

// P12.1: Size from 0 to MaxData, and as many chunks as Count says of it.
func TestRightSizes(t *testing.T) {
	for size := -70; size < 700; size++ {
		count := max(size+63, 0) / 64
		for chunks := range 14 {
			want := size >= 0 && size <= 600 && chunks == count
			if got := record.Right(of(file("a", size, 1, run(1, chunks)...))); got != want {
				t.Errorf("with Size %d and %d chunks Right is %v", size, chunks, got)
			}
			p := file("a", size, 0, run(1, chunks)...)
			p.Has = false
			if got := record.Right(of(p)); got != (size == 0 && chunks == 0) {
				t.Errorf("without a file, with Size %d and %d chunks Right is %v", size, chunks, got)
			}
		}
	}
	for _, p := range sizes() {
		follows(t, "sizes", of(p))
		follows(t, "sizes behind another one", of(gone("a"), p))
	}
}

// P12.1: MaxEntries pieces, and one more; each place has a wrong one in turn.
func TestRightPieces(t *testing.T) {
	for n := range 70 {
		if got := record.Right(of(rows(n)...)); got != (n <= 32) {
			t.Errorf("with %d pieces Right is %v", n, got)
		}
		follows(t, "many pieces", of(rows(n)...))
	}
	for i := range 32 {
		for _, spoil := range []func(l []api.Piece){
			func(l []api.Piece) { l[i].Path = "" },
			func(l []api.Piece) { l[i].Path = l[(i+1)%32].Path },
			func(l []api.Piece) { l[i].Clock = pair(0, 0) },
			func(l []api.Piece) { l[i].Digest = -1 },
			func(l []api.Piece) { l[i].Size = 601 },
			func(l []api.Piece) { l[i].Chunks = run(0, 11) },
			func(l []api.Piece) { l[i], l[(i+7)%32] = l[(i+7)%32], l[i] },
		} {
			m := of(rows(32)...)
			spoil(m.Pieces)
			if record.Right(m) {
				t.Errorf("with a wrong piece %d it is right: %s", i, brief(m))
			}
			follows(t, "a wrong piece", m)
		}
	}
}

// P12.1, P12.2, P12.3, P12.5: what comes of right manifests, and of those that are not, of one part at its limits and beyond, and of two.
func TestAllParts(t *testing.T) {
	for _, m := range slices.Concat(rights(), wrongs()) {
		follows(t, "as it is", m)
	}
	m := some()
	for a := range parts(&m) {
		for _, n := range edges() {
			m := some()
			*parts(&m)[a] = n
			follows(t, a, m)
			for b := range parts(&m) {
				o := deep(m)
				*parts(&o)[b] = n/2 + 1
				follows(t, a+" and "+b, o)
			}
		}
	}
}

// P12.2: the bytes, written out: the document's example, and one of each part.
func TestBytes(t *testing.T) {
	const zero = "\x00\x00\x00\x00"
	if s := record.Bytes(api.Manifest{Author: 1, Version: 2}); len(s) != 32 || s != "\x00\x00\x00\x01\x00\x00\x00\x02"+zero+zero+zero+zero+zero+zero {
		t.Errorf("%q", s)
	}
	if s := record.Bytes(api.Manifest{}); s != strings.Repeat(zero, 8) {
		t.Errorf("%q", s)
	}
	m := api.Manifest{Author: 1, Version: 200, Prev: 0x01020304, Epoch: 5, Next: 6, Seen: 7, SeenHead: 0xfffefdfc, Pieces: []api.Piece{
		{Path: "a/b", Has: true, Size: 65, Chunks: []int{0x11121314, 9}, Digest: 0x21222324, Clock: pair(0x31323334, 10)},
		{Path: "c", Clock: pair(0, 11)},
	}}
	want := "\x00\x00\x00\x01" + "\x00\x00\x00\xc8" + "\x01\x02\x03\x04" + "\x00\x00\x00\x05" + "\x00\x00\x00\x06" + "\x00\x00\x00\x07" + "\xff\xfe\xfd\xfc" + "\x00\x00\x00\x02" +
		"\x00\x00\x00\x03a/b" + "\x00\x00\x00\x01" + "\x00\x00\x00\x41" + "\x21\x22\x23\x24" + "\x31\x32\x33\x34" + "\x00\x00\x00\x0a" + "\x00\x00\x00\x02" + "\x11\x12\x13\x14" + "\x00\x00\x00\x09" +
		"\x00\x00\x00\x01c" + zero + zero + zero + zero + "\x00\x00\x00\x0b" + zero
	if s := record.Bytes(m); s != want {
		t.Errorf("%q", s)
	}
	reads(t, "written out", want, m, api.OK)
}

// P12.2: of manifests that are not right, too: numbers are clamped, strings cut, and nothing else is told otherwise.
func TestBytesOfWrong(t *testing.T) {
	p := api.Piece{Path: strings.Repeat("P", 16385), Size: api.MinInt, Digest: 1 << 32, Clock: pair(-1, api.MaxInt), Chunks: []int{-1, 3, 1 << 40}}
	m := api.Manifest{Author: -1, Version: 201, Prev: 1 << 32, Epoch: api.MaxInt, Next: api.MinInt, Seen: -7, SeenHead: 1<<32 - 1, Pieces: []api.Piece{p, {}}}
	const zero, most = "\x00\x00\x00\x00", "\xff\xff\xff\xff"
	want := zero + "\x00\x00\x00\xc9" + most + most + zero + zero + most + "\x00\x00\x00\x02" +
		"\x00\x00\x40\x00" + strings.Repeat("P", 16384) + zero + zero + most + zero + most + "\x00\x00\x00\x03" + zero + "\x00\x00\x00\x03" + most +
		strings.Repeat(zero, 7)
	if s := record.Bytes(m); s != want {
		t.Errorf("%.200q", s)
	}
	none(t, "of what is not right", want)
	// One count beyond the limit of clocks is written as it is: numbers go further.
	if s := record.Bytes(of(api.Piece{Clock: pair(1<<30+1, 1<<31)})); !strings.HasSuffix(s, "\x40\x00\x00\x01"+"\x80\x00\x00\x00"+zero) {
		t.Errorf("%q", s)
	}
}

// P12.1, P12.2: much is written, held against each other, and copied soon enough.
func TestMuch(t *testing.T) {
	m := of(rows(8)...)
	m.Pieces[3].Chunks = run(5, 1<<19)
	follows(t, "many chunks", m)
	follows(t, "many pieces", of(make([]api.Piece, 1<<16)...))
	none(t, "many bytes", record.Bytes(some())+strings.Repeat("\x00", 1<<24))
	none(t, "many bytes that are no piece", strings.Repeat("\x01", 1<<24))
}

// P12.3: each beginning of a right manifest's bytes, and something behind them, are none's.
func TestReadEnds(t *testing.T) {
	none(t, "no bytes", "")
	for _, m := range rights() {
		s := mustBytes(m)
		reads(t, "all of it", s, m, api.OK)
		for i := range s {
			none(t, fmt.Sprint("the first ", i, " bytes"), s[:i])
		}
		for _, more := range []string{"\x00", "x", number(0), number(1), s, text("zz") + numbers(0, 0, 0, 1, 1, 0), s[:7]} {
			none(t, "something behind", s+more)
			none(t, "something ahead", more+s)
		}
	}
}

// P12.3: 'has a file' is 0 or 1, nothing else.
func TestReadHas(t *testing.T) {
	ahead, behind := numbers(0, 1, 0, 0, 0, 0, 0, 1)+text("a"), numbers(0, 0, 1, 0, 0)
	for _, n := range append(edges(), 1<<24, 1<<24+1) {
		s := ahead + number(n) + behind
		switch number(n) {
		case number(0):
			reads(t, "no file", s, api.Manifest{Version: 1, Pieces: []api.Piece{{Path: "a", Clock: pair(1, 0)}}}, api.OK)
		case number(1):
			reads(t, "a file", s, api.Manifest{Version: 1, Pieces: []api.Piece{{Path: "a", Has: true, Clock: pair(1, 0)}}}, api.OK)
		default:
			none(t, fmt.Sprint("has a file ", n), s)
		}
	}
}

// P12.3: a number of pieces, of chunks, or of a path's bytes that is greater than what follows, or less.
func TestReadCounts(t *testing.T) {
	for _, m := range rights() {
		for n := range 40 {
			if n != len(m.Pieces) {
				s := mustBytes(m)
				none(t, fmt.Sprint(n, " pieces"), s[:28]+number(n)+s[32:])
			}
		}
		for _, n := range []int{1 << 16, 1 << 24, 1 << 31, 1<<32 - 1} {
			s := mustBytes(m)
			none(t, fmt.Sprint(n, " pieces"), s[:28]+number(n)+s[32:])
		}
	}
	ahead := numbers(0, 1, 0, 0, 0, 0, 0, 1) + text("a")
	for n := range 20 {
		for size := range 700 {
			s := ahead + numbers(1, size, 9, 1, 0, n) + numbers(run(1, n)...)
			want, err := mustRead(s)
			reads(t, "as many chunks as told", s, want, err)
		}
		for _, told := range []int{n + 1, n + 2, n - 1, 10, 11, 1 << 24, 1 << 31, 1<<32 - 1} {
			if told < 0 || told == n {
				continue
			}
			none(t, "other chunks than told", ahead+numbers(1, 64*n, 9, 1, 0, told)+numbers(run(1, n)...))
			none(t, "other chunks than told", ahead+numbers(1, 64*told, 9, 1, 0, told)+numbers(run(1, n)...))
		}
	}
	for _, n := range []int{0, 2, 3, 4, 5, 50, 51, 52, 1 << 14, 1<<14 + 1, 1 << 24, 1 << 31, 1<<32 - 1} {
		none(t, "another path's length", numbers(0, 1, 0, 0, 0, 0, 0, 1)+number(n)+"a"+numbers(0, 0, 0, 1, 0, 0))
	}
}

// P12.3: bytes of manifests that are not right, none of whose numbers is clamped.
func TestReadWrong(t *testing.T) {
	kinds := 0
	for _, m := range wrongs() {
		s := mustBytes(m)
		want, err := mustRead(s)
		if err == api.ErrForm {
			kinds++
			none(t, "of what is not right", s)
			continue
		}
		// What was clamped became right: of -1, say, which is written as 0.
		if record.Same(want, m) {
			t.Errorf("%s is read as it was", brief(m))
		}
		reads(t, "clamped", s, want, api.OK)
	}
	if kinds < 100 {
		t.Error("too few of a kind:", kinds)
	}
	for _, c := range []struct {
		author, version, prev, epoch, next, seen, head int
		want                                           api.Errno
	}{
		{0, 1, 0, 0, 0, 0, 0, api.OK},
		{1, 200, 1<<32 - 1, 99, 100, 1<<32 - 1, 1<<32 - 1, api.OK},
		{2, 1, 0, 0, 0, 0, 0, api.ErrForm},
		{0, 0, 0, 0, 0, 0, 0, api.ErrForm},
		{0, 201, 0, 0, 0, 0, 0, api.ErrForm},
		{0, 1, 0, 101, 101, 0, 0, api.ErrForm},
		{0, 1, 0, 100, 101, 0, 0, api.ErrForm},
		{0, 1, 0, 1, 0, 0, 0, api.ErrForm},
		{0, 1, 0, 1, 3, 0, 0, api.ErrForm},
	} {
		s := numbers(c.author, c.version, c.prev, c.epoch, c.next, c.seen, c.head, 0)
		if _, err := record.Read(s); err != c.want {
			t.Errorf("%+v: %v", c, err)
		}
	}
}

// P12.3, P12.5: bytes that differ from a right manifest's in one place are those of another one, or none's.
func TestReadChanged(t *testing.T) {
	read := 0
	for _, m := range rights() {
		s := mustBytes(m)
		for i := range min(len(s), 500) {
			for _, c := range []byte{s[i] + 1, s[i] - 1, 0, 1, 2, 100, 101, '/', 'a', 'z', 255, s[i] ^ 64} {
				changed := s[:i] + string([]byte{c}) + s[i+1:]
				want, err := mustRead(changed)
				reads(t, "one byte is another one", changed, want, err)
				if err == api.OK {
					read++
				}
			}
			none(t, "one byte is missing", s[:i]+s[i+1:])
			for _, n := range []int{0, 1, 2, 3, 200, 201, 1 << 30, 1<<30 + 1, 1<<32 - 1} {
				if i%4 == 0 && i+4 <= len(s) {
					changed := s[:i] + number(n) + s[i+4:]
					want, err := mustRead(changed)
					reads(t, "one number is another one", changed, want, err)
				}
			}
		}
	}
	if read < 1000 {
		t.Error("too few were read:", read)
	}
}

// P12.1: Chunks of any manifest, those of pieces without a file too.
func TestChunks(t *testing.T) {
	p := gone("a")
	p.Chunks = []int{-1, 1 << 40}
	for _, c := range []struct {
		m    api.Manifest
		want []int
	}{
		{api.Manifest{}, nil},
		{of(), nil},
		{of(gone("a"), file("b", 0, 1)), nil},
		{some(), []int{7, 8, 9, 10, 11}},
		{of(file("b", 1, 1, 5), file("a", 600, 1), file("c", 1, 1, 5, 4)), []int{5, 5, 4}},
		{of(p, file("", -1, -1, 2), p), []int{-1, 1 << 40, 2, -1, 1 << 40}},
	} {
		if got := record.Chunks(c.m); !slices.Equal(got, c.want) {
			t.Errorf("Chunks(%s) = %v, not %v", brief(c.m), got, c.want)
		}
	}
}

// variants are some, and what differs from it in one part alone, in each depth; no two are alike.
func variants() []api.Manifest {
	all := []api.Manifest{some()}
	m := some()
	for part, n := range parts(&m) {
		for _, k := range []int{*n + 1, *n - 1, *n + 100, -*n - 200, *n + 1<<32, *n + 1<<33} {
			o := some()
			*parts(&o)[part] = k
			all = append(all, o)
		}
	}
	for _, change := range []func(l []api.Piece) []api.Piece{
		func(l []api.Piece) []api.Piece { return nil },
		func(l []api.Piece) []api.Piece { return l[:3] },
		func(l []api.Piece) []api.Piece { return l[1:] },
		func(l []api.Piece) []api.Piece { return append(l, gone("d")) },
		func(l []api.Piece) []api.Piece { return append(l, api.Piece{}) },
		func(l []api.Piece) []api.Piece { l[1], l[2] = l[2], l[1]; return l },
		func(l []api.Piece) []api.Piece { l[0].Path = "A"; return l },
		func(l []api.Piece) []api.Piece { l[3].Path = "c/d"; return l },
		func(l []api.Piece) []api.Piece { l[3].Path = ""; return l },
		func(l []api.Piece) []api.Piece { l[3].Has = false; return l },
		func(l []api.Piece) []api.Piece { l[2].Has = true; return l },
		func(l []api.Piece) []api.Piece { l[0].Has = false; return l },
		func(l []api.Piece) []api.Piece { l[0].Chunks = nil; return l },
		func(l []api.Piece) []api.Piece { l[0].Chunks = []int{7, 8}; return l },
		func(l []api.Piece) []api.Piece { l[0].Chunks = []int{7, 9, 8}; return l },
		func(l []api.Piece) []api.Piece { l[0].Chunks = []int{7, 8, 9, 0}; return l },
		func(l []api.Piece) []api.Piece { l[2].Chunks = []int{0}; return l },
		func(l []api.Piece) []api.Piece {
			l[0].Chunks, l[1].Chunks = []int{7, 8}, []int{9, 10, 11}
			return l
		},
		func(l []api.Piece) []api.Piece { l[0].Clock = pair(3, 2); return l },
	} {
		all = append(all, of(change(some().Pieces)...))
	}
	return all
}

// P12.1: Same tells apart what differs in one part alone, in each depth, and nothing else.
func TestSame(t *testing.T) {
	all := variants()
	for i, a := range all {
		for j, b := range all {
			if got := record.Same(a, deep(b)); got != (i == j) {
				t.Errorf("Same(%s, %s) = %v", brief(a), brief(b), got)
			}
		}
		follows(t, "a variant", a)
	}
	if len(all) < 150 {
		t.Error("too few of them:", len(all))
	}
	rest := slices.Concat(rights(), wrongs())
	for _, a := range rest {
		for _, b := range rest {
			if got := record.Same(a, b); got != alike(a, b) {
				t.Errorf("Same(%s, %s) = %v", brief(a), brief(b), got)
			}
		}
	}
}

// P12.1, P12.5: right manifests that differ have other bytes.
func TestBytesApart(t *testing.T) {
	seen := map[string]api.Manifest{}
	for _, m := range slices.Concat(rights(), variants()) {
		if !record.Right(m) {
			continue
		}
		s := record.Bytes(m)
		if o, is := seen[s]; is && !alike(o, m) {
			t.Errorf("%s and %s have the same bytes", brief(o), brief(m))
		}
		seen[s] = m
	}
	if len(seen) < 50 {
		t.Error("too few of them:", len(seen))
	}
}

// P12.1: nil lists and empty ones are the same, in each depth.
func TestNoLists(t *testing.T) {
	a, b := of(gone("a"), file("b", 0, 1)), of(gone("a"), file("b", 0, 1))
	for i := range a.Pieces {
		a.Pieces[i].Chunks, b.Pieces[i].Chunks = nil, make([]int, 0, 5)
	}
	c, d := of(), of()
	c.Pieces, d.Pieces = nil, make([]api.Piece, 0, 5)
	for _, p := range [][2]api.Manifest{{a, b}, {c, d}} {
		x, y := p[0], p[1]
		if !record.Same(x, y) || !record.Same(y, x) || record.Bytes(x) != record.Bytes(y) || !record.Right(x) || !record.Right(y) || len(record.Chunks(x))+len(record.Chunks(y)) > 0 {
			t.Errorf("%s and %s are told apart", brief(x), brief(y))
		}
		follows(t, "nil", x)
		follows(t, "empty", y)
	}
}

// whole has all of l, and of its spare room.
func whole[T any](l []T) []T { return slices.Clone(l[:cap(l)]) }

// behind is m with spare room behind each list, in which something stands.
func behind(m api.Manifest) api.Manifest {
	more := []api.Piece{file("z", 1, 2, 3), gone("A")}
	m = deep(m)
	n := len(m.Pieces)
	m.Pieces = append(m.Pieces, more...)[:n]
	for i, p := range m.Pieces {
		m.Pieces[i].Chunks = append(slices.Clone(p.Chunks), 77, 78, -1)[:len(p.Chunks)]
	}
	return m
}

// everything is all that m has, in its spare rooms too.
func everything(m api.Manifest) api.Manifest {
	m.Pieces = whole(m.Pieces)
	for i, p := range m.Pieces {
		m.Pieces[i].Chunks = whole(p.Chunks)
	}
	return m
}

// P12.4: what is handed in stays as it is, in all depths, its spare room too.
func TestArgumentsStay(t *testing.T) {
	for _, m := range slices.Concat(rights(), wrongs(), variants()) {
		m = behind(m)
		want := everything(m)
		record.Right(m)
		record.Bytes(m)
		record.Chunks(m)
		record.Copy(m)
		record.Same(m, m)
		record.Same(m, some())
		record.Same(some(), m)
		if !reflect.DeepEqual(everything(m), want) {
			t.Fatalf("%s became %s", brief(want), brief(everything(m)))
		}
	}
}

// spoil writes over all of l, and its spare room.
func spoil[T any](l []T, with T) {
	l = l[:cap(l)]
	for i := range l {
		l[i] = with
	}
}

// spoilAll writes over all of m, first in the depths.
func spoilAll(m api.Manifest) {
	for _, p := range m.Pieces[:cap(m.Pieces)] {
		spoil(p.Chunks, -99)
	}
	spoil(m.Pieces, api.Piece{Path: "spoilt", Has: true, Size: -99, Chunks: []int{-99}, Digest: -99})
}

// P12.4: who changes what was handed in, or answered, changes nothing else.
func TestAnswersApart(t *testing.T) {
	for _, want := range slices.Concat(rights(), wrongs(), variants()) {
		chunks, s := mustChunks(want), mustBytes(want)
		m := behind(want)
		one, two, l, k := record.Copy(m), record.Copy(m), record.Chunks(m), record.Chunks(m)
		spoil(k, -99)
		spoilAll(two)
		if !alike(m, want) || !alike(one, want) || !slices.Equal(l, chunks) {
			t.Fatalf("an answer of %s that is changed changes another thing", brief(want))
		}
		b := record.Bytes(m)
		spoilAll(m)
		if !alike(one, want) || !slices.Equal(l, chunks) || b != s {
			t.Fatalf("an answer of %s shares what was handed in", brief(want))
		}
		wantRead, err := mustRead(s)
		x, _ := record.Read(s)
		y, _ := record.Read(s)
		spoilAll(y)
		if !alike(x, wantRead) || b != s {
			t.Fatalf("what is read of %s is shared", brief(want))
		}
		reads(t, "again", s, wantRead, err)
	}
}

// P12.4: no two lists of one answer share any memory, where those that are handed in do.
func TestListsApart(t *testing.T) {
	l := run(1, 10)
	m := of(file("a", 600, 1, l...), file("b", 600, 1, l...), file("c", 129, 1, l[4:7]...), file("d", 64, 1, l[9:]...))
	m.Pieces[0].Chunks, m.Pieces[1].Chunks, m.Pieces[2].Chunks = l, l, l[4:7]
	read, err := record.Read(mustBytes(m))
	if err != api.OK {
		t.Fatal(err)
	}
	for _, c := range []api.Manifest{record.Copy(m), read} {
		for i := range c.Pieces {
			d := c.Pieces[i].Chunks
			spoil(d, -99)
			for j, p := range c.Pieces[i+1:] {
				if !slices.Equal(p.Chunks, m.Pieces[i+1+j].Chunks) {
					t.Errorf("the chunks of pieces %d and %d share memory", i, i+1+j)
				}
			}
		}
	}
	if !slices.Equal(l, run(1, 10)) {
		t.Error("what was handed in is shared")
	}
}

// shares tells whether two strings have bytes in the same place.
func shares(a, b string) bool {
	if a == "" || b == "" {
		return false
	}
	p, q := uintptr(unsafe.Pointer(unsafe.StringData(a))), uintptr(unsafe.Pointer(unsafe.StringData(b)))
	return p < q+uintptr(len(b)) && q < p+uintptr(len(a))
}

// paths has the paths of m.
func paths(m api.Manifest) []string {
	var l []string
	for _, p := range m.Pieces {
		l = append(l, p.Path)
	}
	return l
}

// P12.4: strings that are answered are of new memory, too.
func TestStringsNew(t *testing.T) {
	for _, m := range slices.Concat(rights(), wrongs()) {
		s := record.Bytes(m)
		read, _ := record.Read(s)
		got := slices.Concat(paths(record.Copy(m)), paths(record.Copy(m)), paths(read), []string{record.Bytes(m)})
		for i, a := range got {
			for _, b := range slices.Concat(paths(m), []string{s}, got[:i]) {
				// A string of one byte is one that the language itself keeps for all, when it is made of bytes.
				if len(a) > 1 && shares(a, b) {
					t.Fatalf("of %s: %.40q is of old memory", brief(m), a)
				}
			}
		}
	}
}

// made makes a manifest of bytes, a right one often, and wrong ones too.
func made(b []byte) api.Manifest {
	next := func() int {
		if len(b) == 0 {
			return 0
		}
		n := int(b[0])
		b = b[1:]
		return n
	}
	all := edges()
	pick := func(fine int) int {
		if n := next(); n > 250 {
			return all[next()%len(all)]
		}
		return fine
	}
	m := api.Manifest{Author: pick(next() % 2), Version: pick(next()%200 + 1), Prev: pick(next()), Epoch: pick(next() % 100), Seen: pick(next()), SeenHead: pick(next() << 24)}
	m.Next = pick(m.Epoch + next()%2)
	for i := 0; len(b) > 0 && len(m.Pieces) < 40; i++ {
		p := api.Piece{Path: at(pick(i) & 63), Has: next()%3 > 0, Clock: pair(pick(next()), pick(next()+1))}
		if kind := next(); kind > 250 {
			p.Path = noPaths()[kind%len(noPaths())]
		}
		if p.Has {
			p.Size, p.Digest = pick(next()*600/255), pick(next())
			p.Chunks = run(pick(next()), (max(min(p.Size, 1000), 0)+63)/64)
		}
		if kind := next(); kind > 252 {
			p.Has, p.Size, p.Chunks = kind == 253, pick(next()), append(p.Chunks, pick(next()))
		}
		m.Pieces = append(m.Pieces, p)
	}
	return m
}

// holds tells where what comes of m, and of bytes near its own, is not as the promises say.
func holds(t *testing.T, m api.Manifest, at, c int) {
	t.Helper()
	follows(t, "at random", m)
	s := record.Bytes(m)
	i := max(at, 0) % len(s)
	for _, near := range []string{s[:i] + string([]byte{byte(c)}) + s[i+1:], s[:i], s + s[i:], s[:i/4*4] + number(c) + s[min(i/4*4+4, len(s)):]} {
		want, err := mustRead(near)
		reads(t, "near", near, want, err)
	}
}

// P12.1 to P12.5: manifests at random.
func TestAtRandom(t *testing.T) {
	r := rand.New(rand.NewSource(12))
	kinds := map[bool]int{}
	for range 10000 {
		b := make([]byte, r.Intn(300))
		r.Read(b)
		if r.Intn(2) == 0 {
			for i := range b {
				b[i] = min(b[i], 250)
			}
		}
		m := made(b)
		holds(t, m, r.Intn(3000), r.Intn(1<<9))
		kinds[record.Right(m)]++
	}
	if kinds[true] < 1000 || kinds[false] < 1000 {
		t.Error("too few of a kind:", kinds)
	}
}

// FuzzManifests holds all calls against the other ways, at any manifest, and bytes near its own.
func FuzzManifests(f *testing.F) {
	f.Add([]byte{}, 0, 0)
	f.Add([]byte{1, 0, 1, 9, 0, 3, 0, 4, 0, 5, 0, 6, 0, 0, 0, 1, 1, 1, 2, 2, 3, 3, 4}, 40, 2)
	f.Add(slices.Repeat([]byte{3, 255, 7}, 60), 77, -1)
	f.Fuzz(func(t *testing.T, b []byte, at, c int) {
		holds(t, made(b), at, c)
	})
}

// FuzzRead holds Read against the other way, at any string.
func FuzzRead(f *testing.F) {
	for _, m := range rights() {
		f.Add(mustBytes(m))
	}
	f.Fuzz(func(t *testing.T, s string) {
		want, err := mustRead(s)
		reads(t, "any string", s, want, err)
		if m, e := record.Read(s); e == api.OK && (!record.Right(m) || record.Bytes(m) != s) {
			t.Errorf("%q is read as %s", s, brief(m))
		}
	})
}
