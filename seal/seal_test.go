package seal_test

import (
	"encoding/binary"
	"fmt"
	"math/big"
	"math/rand"
	"reflect"
	"slices"
	"strings"
	"testing"
	"unsafe"

	"carpetbag/api"
	"carpetbag/chain"
	"carpetbag/record"
	"carpetbag/scan"
	"carpetbag/seal"
)

// text is n bytes that are unlike those of another first letter.
func text(n int, first byte) string {
	b := make([]byte, n)
	for i := range b {
		b[i] = first + byte(i/64)
	}
	return string(b)
}

// file is an entry with a file; gone is one without.
func file(path, data string) api.Entry {
	return api.Entry{Path: path, Has: true, Data: data, Clock: api.Pair{Left: 1}}
}

func gone(path string) api.Entry { return api.Entry{Path: path, Clock: api.Pair{Right: 2}} }

// mixed has files of 65, 0 and 64 bytes, with three chunks in all, and what is gone ahead, between and behind.
func mixed() []api.Entry {
	return []api.Entry{gone("a"), file("b/c", text(65, 'p')), gone("b/d"), file("e", ""), file("f", text(64, 'x')), gone("g")}
}

// many is n entries with rising paths, of which each with a file has size bytes.
func many(n, size int) []api.Entry {
	var l []api.Entry
	for i := range n {
		path := fmt.Sprintf("d%02d/%c", i/4, 'a'+i%4)
		if i%2 == 1 {
			l = append(l, gone(path))
		} else {
			l = append(l, file(path, text(size, byte(i))))
		}
	}
	return l
}

// archives are right ones.
func archives() [][]api.Entry {
	return [][]api.Entry{
		nil,
		{},
		{gone("a")},
		{file("a", "")},
		{file("a", "x")},
		{file("a", text(64, 'a'))},
		{file("a", text(65, 'a'))},
		{file("a", text(600, 'a'))},
		{file("a", "same"), file("b", "same"), file("c", strings.Repeat("y", 128))},
		{file("a", ""), file("b", ""), gone("c")},
		{gone("a"), gone("a/b"), file("a/b/c", "1")},
		mixed(),
		many(2, 65),
		many(31, 600),
		many(32, 600),
		many(32, 0),
	}
}

// noArchives are lists that are no right archive.
func noArchives() [][]api.Entry {
	old := gone("a")
	old.Clock = api.Pair{}
	below := gone("a")
	below.Clock.Left = -1
	wide := file("a", "1")
	wide.Clock.Left = api.MaxCount + 1
	full := gone("a")
	full.Data = "1"
	return [][]api.Entry{
		many(33, 0),
		many(34, 5),
		make([]api.Entry, 1),
		make([]api.Entry, 1<<16),
		{gone("b"), gone("a")},
		{file("a", "1"), file("a", "1")},
		{file("a", "1"), file("a/b", "1")},
		{file("a", text(601, 'a'))},
		{gone("")}, {gone("A")}, {gone("a/")}, {gone("a/b/c/d/e")}, {gone("abcdefghijklm")},
		{file("a", "1"), old},
		slices.Collect(func(yield func(api.Entry) bool) {
			for i := range 17 {
				if !yield(file(string(rune('a'+i)), "1")) {
					return
				}
			}
		}),
		{old}, {below}, {wide}, {full},
	}
}

// edges are numbers at the ends of what any number has, and beyond.
func edges() []int {
	return []int{api.MinInt, api.MinInt + 1, -1 << 62, -1<<62 - 1, -1 << 32, -3, -2, -1, 0, 1, 2, 3, 99, 100, 101, 199, 200, 201,
		1<<32 - 2, 1<<32 - 1, 1 << 32, 1<<32 + 1, 1<<62 - 1, 1 << 62, api.MaxInt - 1, api.MaxInt}
}

// sealed is what is kept under a handle of a model.
type sealed struct {
	key       int
	ad, plain string
}

// model is a box by another way: the order of what is known is that of a list, and keys and labels are one line of text.
type model struct {
	texts []string
	seals map[int]sealed
	names map[string]int
	named map[int]bool
}

func newModel() *model {
	return &model{seals: map[int]sealed{}, names: map[string]int{}, named: map[int]bool{}}
}

// mustKey is the key of an author and an epoch, worked out in numbers that have no ends.
func mustKey(author, epoch int) int {
	k := new(big.Int).Mul(big.NewInt(2), big.NewInt(int64(epoch)))
	if new(big.Int).Mod(big.NewInt(int64(author)), big.NewInt(2)).Sign() != 0 {
		k.Add(k, big.NewInt(1))
	}
	round := new(big.Int).Lsh(big.NewInt(1), 64)
	if k.Mod(k, round).Bit(63) == 1 {
		k.Sub(k, round)
	}
	return int(k.Int64())
}

// four are the bytes of a number.
func four(n int) string {
	if n < 0 {
		n = 0
	}
	if n > 1<<32-1 {
		n = 1<<32 - 1
	}
	return string(binary.BigEndian.AppendUint32(nil, uint32(n)))
}

// mustLabel is the label of a place.
func mustLabel(author, version, at int) string {
	if at < 0 {
		return "m" + four(author) + four(version) + four(0)
	}
	return "c" + four(author) + four(version) + four(at)
}

// size is how long a string looks.
func size(n int) int {
	for _, size := range []int{80, 320, 1280, 5120} {
		if n+4 <= size {
			return size
		}
	}
	return 0
}

// digest is that of a string, which is known from then on.
func (m *model) digest(s string) (int, api.Errno) {
	if i := slices.Index(m.texts, s); i >= 0 {
		return i + 1, api.OK
	}
	if len(m.texts) == api.MaxDigests {
		return 0, api.ErrFull
	}
	m.texts = append(m.texts, s)
	return len(m.texts), api.OK
}

// free is the first number from a nonce on that is not taken.
func free(nonce int, taken func(int) bool) int {
	n := uint32(nonce)
	for taken(int(n)) {
		n++
	}
	return int(n)
}

func (m *model) name(author, epoch, version, at, nonce int) (int, api.Errno) {
	line := fmt.Sprintf("%d %q", mustKey(author, epoch), mustLabel(author, version, at))
	if n, is := m.names[line]; is {
		return n, api.OK
	}
	if len(m.names) == api.MaxSealed {
		return 0, api.ErrFull
	}
	n := free(nonce, func(n int) bool { return m.named[n] })
	m.names[line], m.named[n] = n, true
	return n, api.OK
}

func (m *model) seal(key int, ad, plain string, nonce int) (int, api.Errno) {
	if size(len(plain)) == 0 {
		return 0, api.ErrRange
	}
	if len(m.seals) == api.MaxSealed {
		return 0, api.ErrFull
	}
	h := free(nonce, func(n int) bool { _, is := m.seals[n]; return is })
	m.seals[h] = sealed{key, ad, plain}
	return h, api.OK
}

// value is that of a handle.
func (m *model) value(h int) string {
	s, is := m.seals[h]
	if !is {
		return four(h) + four(0)
	}
	return four(h) + four(size(len(s.plain)))
}

// put names and seals a text, with the next two of l.
func (m *model) put(o api.Order, at int, s string, drawn *int) (api.Put, api.Errno) {
	draw := func() int {
		if len(o.Nonces) == 0 {
			return 0
		}
		*drawn++
		return o.Nonces[(*drawn-1)%len(o.Nonces)]
	}
	name, err := m.name(o.Author, o.At.Epoch, o.At.Version+1, at, draw())
	if err != api.OK {
		return api.Put{}, err
	}
	h, err := m.seal(mustKey(o.Author, o.At.Epoch), mustLabel(o.Author, o.At.Version+1, at), s, draw())
	return api.Put{Name: name, Value: m.value(h)}, err
}

func (m *model) ship(o api.Order) (api.Shipment, api.Errno) {
	var done api.Shipment
	if !scan.Right(o.Archive) || o.Author < 0 || o.Author > 1 {
		return done, api.ErrArg
	}
	var pieces []api.Piece
	drawn := 0
	for _, e := range o.Archive {
		p := api.Piece{Path: e.Path, Has: e.Has, Clock: e.Clock}
		if e.Has {
			var err api.Errno
			if p.Digest, err = m.digest(e.Data); err != api.OK {
				return api.Shipment{}, err
			}
			p.Size = len(e.Data)
			for rest := e.Data; rest != ""; {
				n := min(len(rest), 64)
				put, err := m.put(o, len(done.Puts), rest[:n], &drawn)
				if err != api.OK {
					return api.Shipment{}, err
				}
				done.Puts, p.Chunks, rest = append(done.Puts, put), append(p.Chunks, put.Name), rest[n:]
			}
		}
		pieces = append(pieces, p)
	}
	var err api.Errno
	if done.Manifest, err = chain.Next(o.At, o.Author, o.Turn, o.Peer, pieces); err != api.OK {
		return api.Shipment{}, err
	}
	s := record.Bytes(done.Manifest)
	if done.Head, err = m.digest(s); err != api.OK {
		return api.Shipment{}, err
	}
	put, err := m.put(o, -1, s, &drawn)
	if err != api.OK {
		return api.Shipment{}, err
	}
	done.Puts = append(done.Puts, put)
	return done, api.OK
}

// open is what was sealed with that key and that label.
func (m *model) open(key int, ad, value string) (string, api.Errno) {
	if len(value) != 8 || strings.HasSuffix(value, "\x00\x00\x00\x00") {
		return "", api.ErrForm
	}
	h := int(binary.BigEndian.Uint32([]byte(value)))
	if m.value(h) != value {
		return "", api.ErrForm
	}
	if s := m.seals[h]; s.key == key && s.ad == ad {
		return s.plain, api.OK
	}
	return "", api.ErrOpen
}

func (m *model) manifest(author int, c api.Cursor, value string, own []int) (api.Manifest, api.Cursor, api.Errno) {
	s, err := m.open(mustKey(author, c.Epoch), mustLabel(author, c.Version+1, -1), value)
	if err != api.OK {
		return api.Manifest{}, c, err
	}
	x, err := record.Read(s)
	if err != api.OK {
		return api.Manifest{}, c, api.ErrForm
	}
	head, err := m.digest(s)
	if err != api.OK {
		return api.Manifest{}, c, err
	}
	d, err := chain.Accept(c, author, x, head, own)
	if err != api.OK {
		return api.Manifest{}, c, err
	}
	return x, d, api.OK
}

func (m *model) chunk(author, epoch, version, at int, value string) (string, api.Errno) {
	return m.open(mustKey(author, epoch), mustLabel(author, version, max(at, 0)), value)
}

func (m *model) entries(x api.Manifest, chunks []string) ([]api.Entry, api.Errno) {
	total := 0
	for _, p := range x.Pieces {
		total += len(p.Chunks)
	}
	if !record.Right(x) || total != len(chunks) {
		return nil, api.ErrForm
	}
	var l []api.Entry
	for _, p := range x.Pieces {
		e := api.Entry{Path: p.Path, Has: p.Has, Clock: p.Clock}
		for i, s := range chunks[:len(p.Chunks)] {
			if i < len(p.Chunks)-1 && len(s) != 64 || len(s) == 0 || len(s) > 64 {
				return nil, api.ErrForm
			}
			e.Data += s
		}
		chunks = chunks[len(p.Chunks):]
		if p.Has && (len(e.Data) != p.Size || slices.Index(m.texts, e.Data) != p.Digest-1 || p.Digest == 0) {
			return nil, api.ErrForm
		}
		l = append(l, e)
	}
	if !scan.Right(l) {
		return nil, api.ErrForm
	}
	return l, api.OK
}

// pair is a box, and the model that it is held against.
type pair struct {
	t *testing.T
	b *seal.Box
	m *model
}

func newPair(t *testing.T) *pair { return &pair{t, seal.New(), newModel()} }

// counts tells where there are not as many seals and names as there should be.
func (p *pair) counts() {
	p.t.Helper()
	if p.b.Sealed() != len(p.m.seals) || p.b.Named() != len(p.m.names) {
		p.t.Fatalf("%d seals and %d names, where there are %d and %d", p.b.Sealed(), p.b.Named(), len(p.m.seals), len(p.m.names))
	}
}

func sameShipment(a, b api.Shipment) bool {
	return slices.Equal(a.Puts, b.Puts) && record.Same(a.Manifest, b.Manifest) && a.Head == b.Head
}

func (p *pair) ship(o api.Order) (api.Shipment, api.Errno) {
	p.t.Helper()
	want, fine := p.m.ship(o)
	s, err := p.b.Ship(o)
	if err != fine || !sameShipment(s, want) {
		p.t.Fatalf("ship %+v:\n%+v, %v\nnot %+v, %v", o, s, err, want, fine)
	}
	if err != api.OK && !reflect.DeepEqual(s, api.Shipment{}) {
		p.t.Fatalf("ship %+v: %v beside %+v", o, err, s)
	}
	p.counts()
	return s, err
}

func (p *pair) name(author, epoch, version, at, nonce int) (int, api.Errno) {
	p.t.Helper()
	want, fine := p.m.name(author, epoch, version, at, nonce)
	n, err := p.b.Name(author, epoch, version, at, nonce)
	if n != want || err != fine {
		p.t.Fatalf("name %d %d %d %d of %d: %d, %v, not %d, %v", author, epoch, version, at, nonce, n, err, want, fine)
	}
	p.counts()
	return n, err
}

func (p *pair) manifest(author int, c api.Cursor, value string, own []int) (api.Manifest, api.Cursor, api.Errno) {
	p.t.Helper()
	want, behind, fine := p.m.manifest(author, c, value, own)
	x, d, err := p.b.Manifest(author, c, value, own)
	if err != fine || d != behind || !record.Same(x, want) {
		p.t.Fatalf("manifest of %d, %+v, %x, %v:\n%+v, %+v, %v\nnot %+v, %+v, %v", author, c, value, own, x, d, err, want, behind, fine)
	}
	if err != api.OK && (!reflect.DeepEqual(x, api.Manifest{}) || d != c) {
		p.t.Fatalf("manifest of %d, %+v, %x: %v beside %+v, %+v", author, c, value, err, x, d)
	}
	p.counts()
	return x, d, err
}

func (p *pair) chunk(author, epoch, version, at int, value string) (string, api.Errno) {
	p.t.Helper()
	want, fine := p.m.chunk(author, epoch, version, at, value)
	s, err := p.b.Chunk(author, epoch, version, at, value)
	if s != want || err != fine {
		p.t.Fatalf("chunk %d %d %d %d of %x: %q, %v, not %q, %v", author, epoch, version, at, value, s, err, want, fine)
	}
	p.counts()
	return s, err
}

func (p *pair) entries(x api.Manifest, chunks []string) ([]api.Entry, api.Errno) {
	p.t.Helper()
	want, fine := p.m.entries(x, chunks)
	l, err := p.b.Entries(x, chunks)
	if err != fine || !slices.Equal(l, want) {
		p.t.Fatalf("entries of %+v, %q:\n%+v, %v\nnot %+v, %v", x, chunks, l, err, want, fine)
	}
	p.counts()
	return l, err
}

// seal seals a text by the box's own vault, as nobody who ships does.
func (p *pair) seal(key int, ad, plain string, nonce int) string {
	p.t.Helper()
	want, fine := p.m.seal(key, ad, plain, nonce)
	h, err := p.b.Seal(key, ad, plain, nonce)
	if h != want || err != fine {
		p.t.Fatalf("seal: %d, %v, not %d, %v", h, err, want, fine)
	}
	return p.m.value(h)
}

// known tells how many digests there are, and holds that against the model: one less than that of a manifest that is new. From then on there is one more.
func (p *pair) known() int {
	p.t.Helper()
	value, c := p.probe()
	return p.ask(value, c) - 1
}

// probe seals a manifest that was never shipped, behind the cursor that it tells.
func (p *pair) probe() (string, api.Cursor) {
	p.t.Helper()
	head := 1<<20 + p.b.Sealed()
	s := record.Bytes(api.Manifest{Version: 77, Epoch: 50, Next: 50, Prev: head})
	return p.seal(mustKey(0, 50), mustLabel(0, 77, -1), s, 1<<30), api.Cursor{Version: 76, Epoch: 50, Head: head}
}

// ask is the digest of what probe sealed.
func (p *pair) ask(value string, c api.Cursor) int {
	p.t.Helper()
	_, d, err := p.manifest(0, c, value, nil)
	if err != api.OK {
		p.t.Fatal("a probe:", err)
	}
	return d.Head
}

// wants tells where what was answered is not what was to be.
func wants[T comparable](t *testing.T, what string, got, want T) {
	t.Helper()
	if got != want {
		t.Errorf("%s: %v, not %v", what, got, want)
	}
}

// P14.1: a name is the vault's, under the key of author and epoch, of the label of the place.
func TestNames(t *testing.T) {
	p := newPair(t)
	for i, n := range edges() {
		for j, m := range []int{0, 1, 5, -1, api.MaxInt, api.MinInt, 1 << 32} {
			p.name(n, m, 1, 0, i)
			p.name(m, n, 1, 0, 3*j)
			p.name(m, 1, n, 0, -i)
			p.name(m, 1, 2, n, api.MaxInt-i)
			p.name(1, 1, m, n, api.MinInt+i)
			p.name(0, 0, 0, m, n)
		}
	}
	// Whose names are one, and whose are two: key and label, each with its clamps and its rounds.
	is := func(a, b [4]int, one bool) {
		t.Helper()
		x, _ := p.name(a[0], a[1], a[2], a[3], 9)
		y, _ := p.name(b[0], b[1], b[2], b[3], 99)
		if (x == y) != one {
			t.Errorf("%v, %v: names %d, %d", a, b, x, y)
		}
	}
	is([4]int{0, 3, 1, -1}, [4]int{0, 3, 1, -2}, true)
	is([4]int{0, 3, 1, -1}, [4]int{0, 3, 1, api.MinInt}, true)
	is([4]int{0, 3, 1, -1}, [4]int{0, 3, 1, 0}, false)
	is([4]int{0, 3, 1, -1}, [4]int{1, 3, 1, -1}, false)
	is([4]int{0, 3, 1, 5}, [4]int{2, 3, 1, 5}, false)
	is([4]int{0, 3, 1, 5}, [4]int{-2, 3, 1, 5}, true)
	is([4]int{0, 3, 1, 5}, [4]int{-1, 3, 1, 5}, false)
	is([4]int{0, 3, 1, 5}, [4]int{0, 3 + api.MinInt, 1, 5}, true)
	is([4]int{0, 0, 1, 5}, [4]int{0, api.MinInt, 1, 5}, true)
	is([4]int{0, -1, 1, 5}, [4]int{0, api.MaxInt, 1, 5}, true)
	is([4]int{0, 3, 1 << 32, 5}, [4]int{0, 3, api.MaxInt, 5}, true)
	is([4]int{0, 3, -1, 5}, [4]int{0, 3, 0, 5}, true)
	is([4]int{0, 3, 2, 5}, [4]int{0, 4, 2, 5}, false)
}

// P14.1: names are told as long as there is room, and those that are known behind that too.
func TestNamesFull(t *testing.T) {
	b := seal.New()
	for i := range api.MaxSealed {
		if n, err := b.Name(i%2, 0, 1+i/1000, i-1, i); n != i || err != api.OK {
			t.Fatal(i, n, err)
		}
	}
	for _, at := range []int{-1, api.MaxSealed, api.MaxInt} {
		if n, err := b.Name(0, 1, 1, at, 5); n != 0 || err != api.ErrFull {
			t.Error(at, n, err)
		}
	}
	if n, err := b.Name(0, 0, 1, -7, 5); n != 0 || err != api.OK {
		t.Error(n, err)
	}
	if n, err := b.Name(1, 0, 1, 0, 5); n != 1 || err != api.OK {
		t.Error(n, err)
	}
}

// P14.1: a value is eight bytes, which tell a handle and a size.
func TestLooks(t *testing.T) {
	for _, h := range []int{0, 1, 7, 255, 256, 65536, 1 << 31, 1<<32 - 1} {
		for _, n := range []int{0, 1, 80, 320, 1280, 5120, 1<<32 - 1} {
			v := four(h) + four(n)
			if x, y, is := seal.Look(v); x != h || y != n || !is {
				t.Errorf("%x: %d, %d, %v", v, x, y, is)
			}
			for _, bad := range []string{v[:7], v[1:], v + "\x00", "\x00" + v, v[:4], v + v} {
				if x, y, is := seal.Look(bad); x != 0 || y != 0 || is {
					t.Errorf("%x: %d, %d, %v", bad, x, y, is)
				}
			}
		}
	}
	for _, n := range []int{0, 1, 2, 3, 5, 6, 7, 9, 10, 1 << 20} {
		if x, y, is := seal.Look(text(n, 1)); x != 0 || y != 0 || is {
			t.Errorf("%d bytes: %d, %d, %v", n, x, y, is)
		}
	}
}

// P14.2: the document's example, and what is put, in all its parts.
func TestExample(t *testing.T) {
	p := newPair(t)
	data := text(65, 'q')
	s, err := p.ship(api.Order{Author: 1, At: api.Cursor{Version: 4, Head: 9, Epoch: 2}, Turn: true, Peer: api.Cursor{Version: 3, Head: 8, Epoch: 77, Ack: 66}, Archive: []api.Entry{file("a", data)}, Nonces: []int{10, 20, 30, 40, 50, 60}})
	want := api.Shipment{
		Puts: []api.Put{{Name: 10, Value: four(20) + four(80)}, {Name: 30, Value: four(40) + four(80)}, {Name: 50, Value: four(60) + four(80)}},
		Manifest: api.Manifest{Author: 1, Version: 5, Prev: 9, Epoch: 2, Next: 3, Seen: 3, SeenHead: 8, Pieces: []api.Piece{
			{Path: "a", Has: true, Size: 65, Chunks: []int{10, 30}, Digest: 1, Clock: api.Pair{Left: 1}}}},
		Head: 2,
	}
	if err != api.OK || !reflect.DeepEqual(s, want) {
		t.Fatalf("%+v, %v", s, err)
	}
	for at, one := range []string{data[:64], data[64:], record.Bytes(want.Manifest)} {
		label := mustLabel(1, 5, at)
		if at == 2 {
			label = mustLabel(1, 5, -1)
		}
		if got, err := p.b.Open(5, label, 20+20*at); got != one || err != api.OK {
			t.Errorf("%d: %q, %v", at, got, err)
		}
	}
}

// orders are those that are shipped: of each archive, by either author, behind unlike cursors, with few and with many nonces.
func orders() []api.Order {
	var all []api.Order
	for i, l := range archives() {
		for _, o := range []api.Order{
			{},
			{Author: 1, Nonces: []int{7}},
			{At: api.Cursor{Version: 199, Head: 1<<32 - 1, Epoch: 100, Ack: 12}, Nonces: []int{-1, 5, api.MinInt}},
			{Author: 1, At: api.Cursor{Version: 3, Head: 5, Epoch: 99}, Turn: true, Peer: api.Cursor{Version: 200, Head: 7, Epoch: -5, Ack: -5}, Nonces: []int{1, 1 << 32, 3, 4, 5, 6, 7, 8, 9}},
			{At: api.Cursor{Version: i, Epoch: i}, Turn: i%2 == 0, Peer: api.Cursor{Version: i, Head: i}, Nonces: []int{3, 3, 4}},
		} {
			o.Archive = l
			all = append(all, o)
		}
	}
	return all
}

// P14.2: what is shipped, into a new box, and into one into which something was shipped.
func TestShips(t *testing.T) {
	one := newPair(t)
	for _, o := range orders() {
		p := newPair(t)
		s, err := p.ship(o)
		if err != api.OK {
			t.Fatalf("%+v: %v", o, err)
		}
		chunks := 0
		for _, e := range o.Archive {
			chunks += (len(e.Data) + 63) / 64
		}
		if len(s.Puts) != chunks+1 || p.b.Sealed() != chunks+1 || p.b.Named() != chunks+1 {
			t.Errorf("%d puts of %d chunks", len(s.Puts), chunks)
		}
		p.known()
		one.ship(o)
		one.ship(o)
	}
	one.known()
}

// P14.2: pieces are the entries, those that are gone too, and places go on from one to the next.
func TestPieces(t *testing.T) {
	p := newPair(t)
	s, err := p.ship(api.Order{Archive: mixed(), Nonces: []int{5, 0}})
	want := []api.Piece{
		{Path: "a", Clock: api.Pair{Right: 2}},
		{Path: "b/c", Has: true, Size: 65, Chunks: []int{5, 6}, Digest: 1, Clock: api.Pair{Left: 1}},
		{Path: "b/d", Clock: api.Pair{Right: 2}},
		{Path: "e", Has: true, Digest: 2, Clock: api.Pair{Left: 1}},
		{Path: "f", Has: true, Size: 64, Chunks: []int{7}, Digest: 3, Clock: api.Pair{Left: 1}},
		{Path: "g", Clock: api.Pair{Right: 2}},
	}
	if err != api.OK || s.Head != 4 || !record.Same(s.Manifest, api.Manifest{Version: 1, Pieces: want}) {
		t.Fatalf("%+v, %v", s, err)
	}
	for at := range 3 {
		if n, _ := p.name(0, 0, 1, at, 99); n != 5+at {
			t.Errorf("the name of place %d: %d", at, n)
		}
	}
	if n, _ := p.name(0, 0, 1, -1, 99); n != 8 || s.Puts[3] != (api.Put{Name: 8, Value: four(3) + four(320)}) {
		t.Errorf("the manifest's name: %d, %+v", n, s.Puts[3])
	}
}

// P14.2: draws are the nonces in order, again from the first one on; a name that is known takes one too.
func TestDraws(t *testing.T) {
	all := []int{100, 200, 300, 400, 500, 600, 700, 800, 900}
	names := [][4]int{{0, 1, 2, 3}, {100, 101, 102, 103}, {100, 101, 102, 103}, {100, 300, 200, 101}, {100, 300, 101, 301}, {100, 300, 500, 200}, {100, 300, 500, 101}, {100, 300, 500, 700}, {100, 300, 500, 700}, {100, 300, 500, 700}}
	handles := [][4]int{{0, 1, 2, 3}, {100, 101, 102, 103}, {200, 201, 202, 203}, {200, 100, 300, 201}, {200, 400, 201, 401}, {200, 400, 100, 300}, {200, 400, 600, 201}, {200, 400, 600, 100}, {200, 400, 600, 800}, {200, 400, 600, 800}}
	for n := range len(all) + 1 {
		p := newPair(t)
		s, err := p.ship(api.Order{Archive: mixed(), Nonces: all[:n]})
		for i, put := range s.Puts {
			if h, _, _ := seal.Look(put.Value); put.Name != names[n][i] || h != handles[n][i] {
				t.Errorf("%d nonces, put %d: %d, %d", n, i, put.Name, h)
			}
		}
		if err != api.OK || len(s.Puts) != 4 {
			t.Error(err)
		}
		// The names are known now: what is drawn for a seal stays the one behind.
		again, err := p.ship(api.Order{Archive: mixed(), Nonces: []int{1100, 1200, 1300, 1400, 1500, 1600, 1700, 1800}})
		for i, put := range again.Puts {
			if h, _, _ := seal.Look(put.Value); put.Name != names[n][i] || h != 1200+200*i {
				t.Errorf("again, put %d: %d, %d", i, put.Name, h)
			}
		}
		if err != api.OK || again.Head != s.Head {
			t.Error(err, again.Head, s.Head)
		}
	}
}

// P14.2: of an archive that is not right, and of another author, nothing is asked.
func TestShipWrong(t *testing.T) {
	p := newPair(t)
	far := api.Cursor{Version: 200}
	for _, l := range noArchives() {
		for _, author := range []int{0, 1, 2} {
			for _, at := range []api.Cursor{{}, far, {Version: -5}} {
				if _, err := p.ship(api.Order{Author: author, At: at, Archive: l}); err != api.ErrArg {
					t.Fatalf("%+v: %v", l, err)
				}
			}
		}
	}
	for _, author := range edges() {
		if author == 0 || author == 1 {
			continue
		}
		for _, at := range []api.Cursor{{}, far, {Version: -5}} {
			if _, err := p.ship(api.Order{Author: author, At: at, Archive: mixed(), Nonces: []int{5}}); err != api.ErrArg {
				t.Errorf("author %d: %v", author, err)
			}
		}
	}
	wants(t, "how many seals there are", p.b.Sealed(), 0)
	wants(t, "how many names there are", p.b.Named(), 0)
	wants(t, "how many digests there are", p.known(), 0)
}

// P14.2: the error of the chain is told behind all chunks, and these stay: but for the manifest, all was asked.
func TestShipBeyond(t *testing.T) {
	for _, c := range []struct {
		o    api.Order
		want api.Errno
	}{
		{api.Order{At: api.Cursor{Version: 200}}, api.ErrFull},
		{api.Order{At: api.Cursor{Version: 201}}, api.ErrFull},
		{api.Order{At: api.Cursor{Version: api.MaxInt}}, api.ErrFull},
		{api.Order{At: api.Cursor{Version: api.MaxInt - 1}}, api.ErrFull},
		{api.Order{At: api.Cursor{Epoch: 101}}, api.ErrFull},
		{api.Order{At: api.Cursor{Epoch: 100}, Turn: true}, api.ErrFull},
		{api.Order{At: api.Cursor{Epoch: api.MaxInt}, Author: 1}, api.ErrFull},
		{api.Order{At: api.Cursor{Epoch: 1<<62 + 1}}, api.ErrFull},
		{api.Order{At: api.Cursor{Version: 200, Head: -1}}, api.ErrFull},
		{api.Order{At: api.Cursor{Version: -1}}, api.ErrForm},
		{api.Order{At: api.Cursor{Version: -2}}, api.ErrForm},
		{api.Order{At: api.Cursor{Version: api.MinInt}}, api.ErrForm},
		{api.Order{At: api.Cursor{Epoch: -1}}, api.ErrForm},
		{api.Order{At: api.Cursor{Epoch: api.MinInt}}, api.ErrForm},
		{api.Order{At: api.Cursor{Head: 1 << 32}}, api.ErrForm},
		{api.Order{Peer: api.Cursor{Version: -1}}, api.ErrForm},
		{api.Order{Peer: api.Cursor{Head: -1}}, api.ErrForm},
		{api.Order{Peer: api.Cursor{Head: 1 << 32}}, api.ErrForm},
	} {
		p := newPair(t)
		o := c.o
		o.Archive, o.Nonces = mixed(), []int{40, 50}
		if _, err := p.ship(o); err != c.want {
			t.Errorf("%+v: %v, not %v", o, err, c.want)
		}
		if p.b.Sealed() != 3 || p.b.Named() != 3 {
			t.Errorf("%+v: %d, %d stay", o, p.b.Sealed(), p.b.Named())
		}
		// Where the version, or the key, goes round, the names and the seals are where it went.
		for at := range 3 {
			if n, err := p.name(o.Author, o.At.Epoch, o.At.Version+1, at, 1); n != 40+at || err != api.OK {
				t.Errorf("%+v: name %d: %d, %v", o, at, n, err)
			}
			if _, err := p.chunk(o.Author, o.At.Epoch, o.At.Version+1, at, p.m.value(50+at)); err != api.OK {
				t.Errorf("%+v: chunk %d: %v", o, at, err)
			}
		}
		wants(t, "how many digests there are", p.known(), 3)
		if s, err := p.ship(api.Order{Archive: mixed()}); err != api.OK || s.Head != 5 || s.Manifest.Pieces[4].Digest != 3 {
			t.Errorf("behind %+v: %+v, %v", o, s, err)
		}
	}
}

// fillNames gives names until there is room for left more, of an epoch that nobody ships in.
func fillNames(t *testing.T, b *seal.Box, left int) {
	t.Helper()
	for at := 0; b.Named() < api.MaxSealed-left; at++ {
		if _, err := b.Name(0, 70, 1, at, 1000+at); err != api.OK {
			t.Fatal(err)
		}
	}
}

// fillSeals seals until there is room for left more.
func fillSeals(t *testing.T, b *seal.Box, left int) {
	t.Helper()
	for at := 0; b.Sealed() < api.MaxSealed-left; at++ {
		if _, err := b.Seal(0, "", "", 1000+at); err != api.OK {
			t.Fatal(err)
		}
	}
}

// fillDigests ships what has no room for a name, until there is room for left more digests: known are there.
func fillDigests(t *testing.T, b *seal.Box, known, left int) {
	t.Helper()
	o := api.Order{At: api.Cursor{Version: 150, Epoch: 71}, Archive: []api.Entry{file("a", "")}}
	for i := known; i < api.MaxDigests-left; i++ {
		o.Archive[0].Data = four(i) + "!"
		if s, err := b.Ship(o); err != api.ErrFull || len(s.Puts) != 0 {
			t.Fatal(s, err)
		}
	}
}

// digestIs tells whether d is the digest of the data, as far as the box knows it.
func digestIs(b *seal.Box, data string, d int) bool {
	m := api.Manifest{Version: 1, Pieces: []api.Piece{{Path: "a", Has: true, Size: len(data), Digest: d, Clock: api.Pair{Left: 1}}}}
	var chunks []string
	for rest := data; rest != ""; rest = rest[min(len(rest), 64):] {
		chunks = append(chunks, rest[:min(len(rest), 64)])
		m.Pieces[0].Chunks = append(m.Pieces[0].Chunks, 0)
	}
	l, err := b.Entries(m, chunks)
	return err == api.OK && l[0].Data == data
}

// stays is what a Ship of mixed that ended early has asked: how many names, how many seals, how many digests.
type stays struct{ names, seals, digests int }

// stay tells where something else stays asked behind such a Ship, whose places were drawn from 5 on, with handles from 6 on.
func stay(t *testing.T, b *seal.Box, want stays) {
	t.Helper()
	for at, place := range []int{0, 1, 2, -1} {
		n, err := b.Name(0, 0, 1, place, 500)
		if is := err == api.OK && n == 5+at; is != (at < want.names) {
			t.Errorf("the name of place %d: %d, %v", place, n, err)
		}
		if place < 0 {
			continue
		}
		_, err = b.Chunk(0, 0, 1, place, four(6+at)+four(80))
		if is := err == api.OK; is != (at < want.seals) {
			t.Errorf("chunk %d: %v", place, err)
		}
	}
	for i, data := range []string{text(65, 'p'), "", text(64, 'x')} {
		if is := digestIs(b, data, i+1); is != (i < want.digests) {
			t.Errorf("digest %d: %v", i+1, is)
		}
	}
}

// ends tells where a Ship of mixed does not tell ErrFull, and nothing else, though it should, or tells it, though there is room.
func ends(t *testing.T, s api.Shipment, err api.Errno, room bool) {
	t.Helper()
	if room && (err != api.OK || len(s.Puts) != 4) || !room && (err != api.ErrFull || !reflect.DeepEqual(s, api.Shipment{})) {
		t.Errorf("%+v, %v", s, err)
	}
}

// P14.2: where names are full at any place of a Ship, it ends there, with what was asked ahead.
func TestFullNames(t *testing.T) {
	for left, want := range []stays{{0, 0, 1}, {1, 1, 1}, {2, 2, 3}, {3, 3, 4}, {4, 4, 4}} {
		p := newPair(t)
		b := p.b
		value, c := p.probe()
		fillNames(t, b, left)
		s, err := b.Ship(api.Order{Archive: mixed(), Nonces: []int{5, 6}})
		ends(t, s, err, left == 4)
		wants(t, "how many seals there are", b.Sealed(), want.seals+1)
		wants(t, "how many names there are", b.Named(), api.MaxSealed)
		stay(t, b, want)
		if _, d, err := b.Manifest(0, c, value, nil); err != api.OK || d.Head != want.digests+1 {
			t.Errorf("room for %d: %d digests, %v", left, d.Head-1, err)
		}
	}
}

// P14.2: where seals are full at any place of a Ship, it ends there: the name is given already.
func TestFullSeals(t *testing.T) {
	for left, want := range []stays{{1, 0, 1}, {2, 1, 1}, {3, 2, 3}, {4, 3, 4}, {4, 4, 4}} {
		p := newPair(t)
		b := p.b
		value, c := p.probe()
		fillSeals(t, b, left)
		s, err := b.Ship(api.Order{Archive: mixed(), Nonces: []int{5, 6}})
		ends(t, s, err, left == 4)
		wants(t, "how many seals there are", b.Sealed(), api.MaxSealed)
		wants(t, "how many names there are", b.Named(), want.names)
		stay(t, b, want)
		if _, d, err := b.Manifest(0, c, value, nil); err != api.OK || d.Head != want.digests+1 {
			t.Errorf("room for %d: %d digests, %v", left, d.Head-1, err)
		}
	}
}

// P14.2: where digests are full at any place of a Ship, it ends there.
func TestFullDigests(t *testing.T) {
	for left, want := range []stays{{0, 0, 0}, {0, 2, 0}, {0, 2, 0}, {0, 3, 0}, {0, 4, 0}} {
		b := seal.New()
		// Names that are known take no room, so that there is room for all but digests.
		for at, place := range []int{0, 1, 2, -1} {
			b.Name(0, 0, 1, place, 5+at)
		}
		fillNames(t, b, 0)
		fillDigests(t, b, 0, left)
		o := api.Order{Archive: mixed(), Nonces: []int{5, 6}}
		for range 2 {
			sealed := b.Sealed()
			s, err := b.Ship(o)
			ends(t, s, err, left == 4)
			if err == api.OK && s.Head != api.MaxDigests {
				t.Error("the last digest:", s.Head)
			}
			wants(t, "how many seals came", b.Sealed()-sealed, want.seals)
		}
		for i, data := range []string{text(65, 'p'), "", text(64, 'x')} {
			if is := digestIs(b, data, api.MaxDigests-left+i+1); is != (i < left) {
				t.Errorf("room for %d, digest %d: %v", left, i, is)
			}
		}
		// What is known is told still, and what has no file is not asked for; the manifest is new.
		o.Archive = []api.Entry{file("a", four(7)+"!"), gone("b")}
		sealed := b.Sealed()
		if _, err := b.Ship(o); err != api.ErrFull || b.Sealed() != sealed+1 {
			t.Errorf("room for %d, data that is known: %v, %d seals", left, err, b.Sealed()-sealed)
		}
		firstErrors(t, b)
	}
}

// firstErrors tells where a box without room tells another error than the first one of those that hold at once.
func firstErrors(t *testing.T, b *seal.Box) {
	t.Helper()
	wrong, far := api.Cursor{Version: -5}, api.Cursor{Version: 200}
	for _, c := range []struct {
		o    api.Order
		want api.Errno
	}{
		{api.Order{Archive: []api.Entry{gone("b"), gone("a")}}, api.ErrArg},
		{api.Order{Author: 2, Archive: []api.Entry{file("a", "new")}}, api.ErrArg},
		{api.Order{Author: -1, At: far}, api.ErrArg},
		{api.Order{At: wrong, Archive: []api.Entry{file("a", "new")}}, api.ErrFull},
		{api.Order{At: wrong, Archive: []api.Entry{gone("a")}}, api.ErrForm},
		{api.Order{Peer: wrong}, api.ErrForm},
		{api.Order{At: far, Peer: wrong}, api.ErrFull},
		{api.Order{Turn: true, Archive: []api.Entry{gone("new")}}, api.ErrFull},
	} {
		if s, err := b.Ship(c.o); err != c.want || !reflect.DeepEqual(s, api.Shipment{}) {
			t.Errorf("%+v: %+v, %v, not %v", c.o, s, err, c.want)
		}
	}
}

// P14.2: of several errors the first one is told, where there is no room for a name, or for a seal.
func TestFirstErrors(t *testing.T) {
	b := seal.New()
	fillNames(t, b, 0)
	firstErrors(t, b)
	wants(t, "how many seals there are", b.Sealed(), 0)
	b = seal.New()
	fillSeals(t, b, 0)
	firstErrors(t, b)
}

// P14.3, P14.4: of several errors the first one is told.
func TestFirstErrorsOpening(t *testing.T) {
	p := newPair(t)
	s, _ := p.ship(api.Order{Archive: mixed()})
	bad := p.seal(mustKey(0, 0), mustLabel(0, 1, -1), "no manifest", 9)
	other := p.seal(mustKey(0, 0), mustLabel(0, 1, -1), record.Bytes(api.Manifest{Author: 1, Version: 7, Prev: 5, Epoch: 9, Next: 9, Seen: 1}), 9)
	old := p.seal(mustKey(0, 0), mustLabel(0, 1, -1), record.Bytes(api.Manifest{Version: 7, Prev: 5, Epoch: 9, Next: 9, Seen: 1}), 9)
	fork := p.seal(mustKey(0, 0), mustLabel(0, 1, -1), record.Bytes(api.Manifest{Version: 1, Prev: 5, Epoch: 9, Next: 9, Seen: 1}), 9)
	for _, k := range []struct {
		author int
		c      api.Cursor
		value  string
		want   api.Errno
	}{
		{1, api.Cursor{Version: 9}, last(s)[:7], api.ErrForm},
		{1, api.Cursor{Version: 9}, last(s)[:4] + four(80), api.ErrForm},
		{1, api.Cursor{Version: 9}, last(s), api.ErrOpen},
		{1, api.Cursor{}, bad, api.ErrOpen},
		{0, api.Cursor{Head: 9}, bad, api.ErrForm},
		{0, api.Cursor{Head: 9}, other, api.ErrForm},
		{0, api.Cursor{Head: 9}, old, api.ErrGap},
		{0, api.Cursor{Head: 9}, fork, api.ErrFork},
		{0, api.Cursor{Head: 5, Ack: 3}, fork, api.ErrEpoch},
	} {
		if _, _, err := p.manifest(k.author, k.c, k.value, nil); err != k.want {
			t.Errorf("%+v: %v", k, err)
		}
	}
	for _, v := range []string{s.Puts[0].Value[:7], s.Puts[0].Value[:4] + four(320), four(99) + four(80), four(99) + four(0)} {
		if got, err := p.chunk(1, 1, 9, 9, v); got != "" || err != api.ErrForm {
			t.Errorf("%x: %q, %v", v, got, err)
		}
	}
}

// cursorOf is the cursor behind a shipment.
func cursorOf(s api.Shipment) api.Cursor {
	return api.Cursor{Version: s.Manifest.Version, Head: s.Head, Epoch: s.Manifest.Next, Ack: s.Manifest.Seen}
}

// last is the value of the manifest.
func last(s api.Shipment) string { return s.Puts[len(s.Puts)-1].Value }

// P14.3: a manifest is opened behind the cursor that it is linked to, and nowhere else.
func TestManifest(t *testing.T) {
	p := newPair(t)
	o := api.Order{Author: 1, At: api.Cursor{Version: 4, Head: 9, Epoch: 2}, Turn: true, Peer: api.Cursor{Version: 2, Head: 8}, Archive: mixed()}
	s, _ := p.ship(o)
	own := []int{5, 8, 6}
	c := api.Cursor{Version: 4, Head: 9, Epoch: 2, Ack: 1}
	m, d, err := p.manifest(1, c, last(s), own)
	if err != api.OK || !record.Same(m, s.Manifest) || d != (api.Cursor{Version: 5, Head: s.Head, Epoch: 3, Ack: 2}) {
		t.Fatalf("%+v, %+v, %v", m, d, err)
	}
	for _, bad := range []struct {
		author int
		c      api.Cursor
		value  string
		own    []int
		want   api.Errno
	}{
		{1, c, "", own, api.ErrForm},
		{1, c, last(s)[:7], own, api.ErrForm},
		{1, c, last(s) + "\x00", own, api.ErrForm},
		{1, c, last(s)[:4] + four(0), own, api.ErrForm},
		{1, c, last(s)[:4] + four(80), own, api.ErrForm},
		{1, c, last(s)[:4] + four(321), own, api.ErrForm},
		{1, c, last(s)[:4] + four(1280), own, api.ErrForm},
		{1, c, four(99) + last(s)[4:], own, api.ErrForm},
		{1, c, four(99) + four(0), own, api.ErrForm},
		{1, c, s.Puts[0].Value, own, api.ErrOpen},
		{0, c, last(s), own, api.ErrOpen},
		{3, c, last(s), own, api.ErrOpen},
		{-1, c, last(s), own, api.ErrOpen},
		{1, api.Cursor{Version: 3, Head: 9, Epoch: 2}, last(s), own, api.ErrOpen},
		{1, api.Cursor{Version: 5, Head: 9, Epoch: 2}, last(s), own, api.ErrOpen},
		{1, api.Cursor{Version: 4, Head: 9, Epoch: 1}, last(s), own, api.ErrOpen},
		{1, api.Cursor{Version: 4, Head: 9, Epoch: 3}, last(s), own, api.ErrOpen},
		{1, api.Cursor{Version: api.MaxInt, Head: 9, Epoch: 2}, last(s), own, api.ErrOpen},
		{1, api.Cursor{Version: 4, Head: 9, Epoch: api.MaxInt}, last(s), own, api.ErrOpen},
		{1, api.Cursor{Version: 4, Head: 8, Epoch: 2}, last(s), own, api.ErrFork},
		{1, api.Cursor{Version: 4, Head: 9, Epoch: 2, Ack: 3}, last(s), own, api.ErrFork},
		{1, c, last(s), nil, api.ErrFork},
		{1, c, last(s), []int{8, 5}, api.ErrFork},
		// Keys go round, so an epoch far off has the same one; the chain tells them apart.
		{1, api.Cursor{Version: 4, Head: 9, Epoch: 2 + api.MinInt}, last(s), own, api.ErrEpoch},
	} {
		if _, _, err := p.manifest(bad.author, bad.c, bad.value, bad.own); err != bad.want {
			t.Errorf("%+v: %v", bad, err)
		}
	}
}

// P14.3: the last version is opened behind the one ahead of it, and nothing behind that.
func TestLastVersion(t *testing.T) {
	p := newPair(t)
	c := api.Cursor{Version: api.MaxVersion - 1, Head: 5, Epoch: api.MaxEpoch}
	s, err := p.ship(api.Order{At: c})
	if err != api.OK {
		t.Fatal(err)
	}
	if _, d, err := p.manifest(0, c, last(s), nil); err != api.OK || d.Version != api.MaxVersion || d.Head != s.Head {
		t.Error(d, err)
	}
	for _, v := range []int{api.MaxVersion, api.MaxVersion + 1} {
		next := api.Cursor{Version: v, Head: s.Head, Epoch: api.MaxEpoch}
		if _, err := p.ship(api.Order{At: next}); err != api.ErrFull {
			t.Errorf("behind version %d: %v", v, err)
		}
		value := p.seal(mustKey(0, api.MaxEpoch), mustLabel(0, v+1, -1), record.Bytes(api.Manifest{Version: v + 1, Prev: s.Head, Epoch: 100, Next: 100}), 1)
		if _, _, err := p.manifest(0, next, value, nil); err != api.ErrForm {
			t.Errorf("version %d: %v", v+1, err)
		}
	}
}

// P14.3: what was sealed by somebody at a manifest's place, but is none's bytes, or another place's manifest.
func TestManifestWrong(t *testing.T) {
	p := newPair(t)
	fine := api.Manifest{Author: 1, Version: 5, Prev: 9, Epoch: 2, Next: 2}
	with := func(change func(m *api.Manifest)) api.Manifest {
		m := fine
		change(&m)
		return m
	}
	c := api.Cursor{Version: 4, Head: 9, Epoch: 2}
	at := func(m api.Manifest) string {
		return p.seal(mustKey(1, 2), mustLabel(1, 5, -1), record.Bytes(m), 3)
	}
	fork := api.Cursor{Version: 4, Head: 8, Epoch: 2}
	// What stands there and is no manifest's bytes has no digest.
	for _, s := range []string{"", "x", record.Bytes(fine) + "\x00", record.Bytes(fine)[1:], record.Bytes(fine)[:31], text(5116, 0)} {
		v := p.seal(mustKey(1, 2), mustLabel(1, 5, -1), s, 3)
		if _, _, err := p.manifest(1, c, v, nil); err != api.ErrForm {
			t.Errorf("%x: %v", s, err)
		}
		p.manifest(1, fork, v, nil)
	}
	for _, m := range []api.Manifest{
		with(func(m *api.Manifest) { m.Author = 2 }),
		with(func(m *api.Manifest) { m.Version = 0 }),
		with(func(m *api.Manifest) { m.Version = 201 }),
		with(func(m *api.Manifest) { m.Next = 4 }),
		with(func(m *api.Manifest) { m.Pieces = []api.Piece{{Path: "a"}} }),
	} {
		if _, _, err := p.manifest(1, c, at(m), nil); err != api.ErrForm {
			t.Errorf("%+v: %v", m, err)
		}
	}
	wants(t, "how many digests there are", p.known(), 0)
	// What is a manifest, but not the one that comes there, has one, whatever is told.
	known := 1
	for _, k := range []struct {
		m    api.Manifest
		want api.Errno
	}{
		{with(func(m *api.Manifest) { m.Author = 0 }), api.ErrForm},
		{with(func(m *api.Manifest) { m.Version = 4 }), api.ErrOld},
		{with(func(m *api.Manifest) { m.Version = 1 }), api.ErrOld},
		{with(func(m *api.Manifest) { m.Version = 6 }), api.ErrGap},
		{with(func(m *api.Manifest) { m.Prev = 8 }), api.ErrFork},
		{with(func(m *api.Manifest) { m.Epoch = 1 }), api.ErrEpoch},
		{with(func(m *api.Manifest) { m.Epoch, m.Next = 3, 3 }), api.ErrEpoch},
		{with(func(m *api.Manifest) { m.Seen = 1 }), api.ErrFork},
		{with(func(m *api.Manifest) { m.SeenHead = 1 }), api.ErrFork},
		{fine, api.OK},
	} {
		v := at(k.m)
		for range 2 {
			if _, _, err := p.manifest(1, c, v, nil); err != k.want {
				t.Errorf("%+v: %v, not %v", k.m, err, k.want)
			}
		}
		wants(t, "how many digests there are", p.known(), known+1)
		known += 2
	}
}

// P14.3: where digests are full, that is told ahead of what the chain tells, and behind all else.
func TestManifestFull(t *testing.T) {
	p := newPair(t)
	b := p.b
	s, _ := p.ship(api.Order{Archive: mixed()})
	value, c := p.probe()
	late, d := p.probe()
	bad := p.seal(mustKey(0, 50), mustLabel(0, 77, -1), "x", 9)
	fillNames(t, b, 0)
	fillDigests(t, b, 4, 1)
	tells := func(author int, c api.Cursor, value string, want api.Errno) {
		t.Helper()
		m, behind, err := b.Manifest(author, c, value, nil)
		if err != want || err != api.OK && (behind != c || !reflect.DeepEqual(m, api.Manifest{})) {
			t.Errorf("%d, %+v: %+v, %+v, %v, not %v", author, c, m, behind, err, want)
		}
	}
	// One that the chain refuses takes the last room.
	fork := c
	fork.Head++
	tells(0, fork, value, api.ErrFork)
	tells(0, d, late, api.ErrFull)
	tells(0, fork, late, api.ErrFull)
	tells(0, fork, value, api.ErrFork)
	tells(0, c, value, api.OK)
	tells(0, d, late[:7], api.ErrForm)
	tells(0, d, bad, api.ErrForm)
	tells(1, d, late, api.ErrOpen)
	tells(0, api.Cursor{}, last(s), api.OK)
	tells(0, api.Cursor{Head: 1}, last(s), api.ErrFork)
	if _, e, _ := b.Manifest(0, c, value, nil); e.Head != api.MaxDigests {
		t.Error(e)
	}
}

// P14.4: a chunk is opened with the key of its author and epoch, at its version and place.
func TestChunks(t *testing.T) {
	p := newPair(t)
	s, _ := p.ship(api.Order{Author: 1, At: api.Cursor{Version: 4, Epoch: 2}, Archive: mixed()})
	data := []string{text(64, 'p'), text(65, 'p')[64:], text(64, 'x')}
	for at, want := range data {
		v := s.Puts[at].Value
		if got, err := p.chunk(1, 2, 5, at, v); got != want || err != api.OK {
			t.Errorf("%d: %q, %v", at, got, err)
		}
		for _, bad := range []string{"", v[:7], v + "\x00", v[:4] + four(0), v[:4] + four(81), v[:4] + four(320), four(99) + v[4:], four(99) + four(0)} {
			if got, err := p.chunk(1, 2, 5, at, bad); got != "" || err != api.ErrForm {
				t.Errorf("%x: %q, %v", bad, got, err)
			}
		}
		for _, place := range [][4]int{{0, 2, 5, at}, {2, 2, 5, at}, {3, 2, 5, at}, {-1, 2, 5, at}, {1, 1, 5, at}, {1, 3, 5, at}, {1, 2, 4, at}, {1, 2, 6, at}, {1, 2, 5, at + 1}, {1, 2, 5, api.MaxInt}} {
			if got, err := p.chunk(place[0], place[1], place[2], place[3], v); got != "" || err != api.ErrOpen {
				t.Errorf("%v: %q, %v", place, got, err)
			}
		}
		for _, n := range edges() {
			p.chunk(n, 2, 5, at, v)
			p.chunk(1, n, 5, at, v)
			p.chunk(1, 2, n, at, v)
			p.chunk(1, 2, 5, n, v)
		}
	}
	// A place below 0 is the first one, not the manifest's.
	for _, at := range []int{-1, -2, api.MinInt} {
		if got, err := p.chunk(1, 2, 5, at, s.Puts[0].Value); got != data[0] || err != api.OK {
			t.Errorf("%d: %q, %v", at, got, err)
		}
		if got, err := p.chunk(1, 2, 5, at, last(s)); got != "" || err != api.ErrOpen {
			t.Errorf("%d: %q, %v", at, got, err)
		}
	}
}

// P14.4: any author, and any numbers that go round, or are clamped.
func TestChunksAnywhere(t *testing.T) {
	p := newPair(t)
	for i, n := range edges() {
		for _, place := range [][4]int{{n, 1, 1, 1}, {1, n, 1, 1}, {1, 1, n, 1}, {0, 1, 1, n}, {n, n, n, n}} {
			want := fmt.Sprint(i, place)
			v := p.seal(mustKey(place[0], place[1]), mustLabel(place[0], place[2], max(place[3], 0)), want, i)
			if got, err := p.chunk(place[0], place[1], place[2], place[3], v); got != want || err != api.OK {
				t.Errorf("%v: %q, %v", place, got, err)
			}
		}
	}
	// The empty string, and a long one, were sealed by nobody who ships, and are opened all the same.
	for _, want := range []string{"", text(5116, 'a')} {
		v := p.seal(mustKey(0, 0), mustLabel(0, 1, 0), want, 9)
		if got, err := p.chunk(0, 0, 1, 0, v); got != want || err != api.OK {
			t.Errorf("%d bytes: %v", len(want), err)
		}
	}
}

// cut has the chunks of all files of an archive.
func cut(l []api.Entry) []string {
	var all []string
	for _, e := range l {
		for rest := e.Data; rest != ""; rest = rest[min(len(rest), 64):] {
			all = append(all, rest[:min(len(rest), 64)])
		}
	}
	return all
}

// P14.5: the archive of a manifest and its chunks.
func TestEntries(t *testing.T) {
	p := newPair(t)
	for _, l := range archives() {
		s, err := p.ship(api.Order{Archive: l})
		if err != api.OK {
			t.Fatal(err)
		}
		got, err := p.entries(s.Manifest, cut(l))
		if err != api.OK || !slices.Equal(got, l) {
			t.Fatalf("%+v, %v", got, err)
		}
		chunks := cut(l)
		for i := range chunks {
			bads := [][]string{chunks[:i], slices.Delete(slices.Clone(chunks), i, i+1), slices.Insert(slices.Clone(chunks), i, ""), slices.Insert(slices.Clone(chunks), i, chunks[i])}
			for _, s := range []string{"", chunks[i][1:], chunks[i] + "x", "\xff" + chunks[i][1:], text(64, '~'), "z"} {
				bad := slices.Clone(chunks)
				bad[i] = s
				bads = append(bads, bad)
			}
			for _, bad := range bads {
				if got, err := p.entries(s.Manifest, bad); got != nil || err != api.ErrForm {
					t.Fatalf("%q: %+v, %v", bad, got, err)
				}
			}
			if other := slices.IndexFunc(chunks, func(s string) bool { return s != chunks[i] }); other >= 0 {
				bad := slices.Clone(chunks)
				bad[i], bad[other] = bad[other], bad[i]
				if _, err := p.entries(s.Manifest, bad); err != api.ErrForm {
					t.Fatalf("%q: %v", bad, err)
				}
			}
		}
		if got, err := p.entries(s.Manifest, append(slices.Clone(chunks), "x")); got != nil || err != api.ErrForm {
			t.Fatalf("one more: %+v, %v", got, err)
		}
	}
}

// P14.5: of each piece the very string: cut at another place, or another one of that size, it is none.
func TestEntriesApart(t *testing.T) {
	p := newPair(t)
	l := []api.Entry{file("a", text(65, 'a')), file("b", text(64, 'k')), file("c", text(65, 'p'))}
	s, _ := p.ship(api.Order{Archive: l})
	c := cut(l)
	for _, bad := range [][]string{
		{c[3], c[4], c[2], c[0], c[1]},
		{c[0], c[1], c[0], c[3], c[4]},
		{c[1], c[0], c[2], c[3], c[4]},
		{c[0], c[4], c[2], c[3], c[1]},
		{c[0][:63], c[0][63:] + c[1], c[2], c[3], c[4]},
		{c[0] + c[1], "", c[2], c[3], c[4]},
		{c[0], c[1] + c[2][:1], c[2][1:], c[3], c[4]},
		{c[0], "", c[2] + c[1], c[3], c[4]},
	} {
		if got, err := p.entries(s.Manifest, bad); got != nil || err != api.ErrForm {
			t.Errorf("%q: %+v, %v", bad, got, err)
		}
	}
	if got, err := p.entries(s.Manifest, c); err != api.OK || !slices.Equal(got, l) {
		t.Errorf("%+v, %v", got, err)
	}
}

// P14.5: manifests that nobody shipped: with other digests, sizes and names, or that are not right.
func TestEntriesWrong(t *testing.T) {
	p := newPair(t)
	l := []api.Entry{file("a", text(65, 'a')), gone("b"), file("c", "")}
	s, _ := p.ship(api.Order{Archive: l})
	asked := func(change func(m *api.Manifest), want api.Errno) {
		t.Helper()
		m := record.Copy(s.Manifest)
		change(&m)
		if _, err := p.entries(m, cut(l)); err != want {
			t.Errorf("%+v: %v, not %v", m, err, want)
		}
	}
	// What tells nothing of the data may be anything that is right.
	asked(func(m *api.Manifest) { m.Pieces[0].Chunks[0] = 99 }, api.OK)
	asked(func(m *api.Manifest) {
		m.Author, m.Version, m.Prev, m.Seen, m.SeenHead, m.Epoch, m.Next = 1, 200, 3, 4, 5, 99, 100
	}, api.OK)
	asked(func(m *api.Manifest) { m.Pieces[1].Clock = api.Pair{Left: 9, Right: 9} }, api.OK)
	asked(func(m *api.Manifest) { m.Pieces[0].Path = "Z" }, api.ErrForm)
	asked(func(m *api.Manifest) { m.Pieces[1].Path = "d" }, api.ErrForm)
	asked(func(m *api.Manifest) { m.Version = 0 }, api.ErrForm)
	asked(func(m *api.Manifest) { m.Version = 201 }, api.ErrForm)
	asked(func(m *api.Manifest) { m.Next = 2 }, api.ErrForm)
	asked(func(m *api.Manifest) { m.Author = 2 }, api.ErrForm)
	asked(func(m *api.Manifest) { m.Pieces[1].Clock = api.Pair{} }, api.ErrForm)
	asked(func(m *api.Manifest) { m.Pieces[1].Size = 1 }, api.ErrForm)
	asked(func(m *api.Manifest) { m.Pieces[1].Digest = 2 }, api.ErrForm)
	asked(func(m *api.Manifest) { m.Pieces[0].Has, m.Pieces[0].Size = false, 0 }, api.ErrForm)
	asked(func(m *api.Manifest) { m.Pieces[0].Chunks = m.Pieces[0].Chunks[:1] }, api.ErrForm)
	for _, n := range []int{-1, 64, 66, 600, 601} {
		asked(func(m *api.Manifest) { m.Pieces[0].Size = n }, api.ErrForm)
	}
	for _, n := range []int{-1, 0, 2, 3, 4, 1<<32 - 1, 1 << 32, api.MaxInt, api.MinInt} {
		asked(func(m *api.Manifest) { m.Pieces[0].Digest = n }, api.ErrForm)
	}
	for _, n := range []int{0, 1, 3, 4} {
		asked(func(m *api.Manifest) { m.Pieces[2].Digest = n }, api.ErrForm)
	}
	asked(func(m *api.Manifest) { m.Pieces[2].Digest = 2 }, api.OK)
	if _, err := p.entries(api.Manifest{}, nil); err != api.ErrForm {
		t.Error("a zero manifest:", err)
	}
}

// P14.5: entries that are no right archive, though the manifest is right: files in each other's way, and too many.
func TestEntriesNoArchive(t *testing.T) {
	p := newPair(t)
	p.ship(api.Order{Archive: []api.Entry{file("a", "1")}})
	piece := func(path string) api.Piece {
		return api.Piece{Path: path, Has: true, Size: 1, Digest: 1, Chunks: []int{0}, Clock: api.Pair{Left: 1}}
	}
	m := api.Manifest{Version: 1, Pieces: []api.Piece{piece("a"), piece("a/b")}}
	if got, err := p.entries(m, []string{"1", "1"}); got != nil || err != api.ErrForm {
		t.Error(got, err)
	}
	m.Pieces[1].Path = "b"
	if got, err := p.entries(m, []string{"1", "1"}); len(got) != 2 || err != api.OK {
		t.Error(got, err)
	}
	m.Pieces = nil
	var chunks []string
	for i := range 17 {
		if got, err := p.entries(m, chunks); len(got) != i || err != api.OK {
			t.Error(i, got, err)
		}
		m.Pieces, chunks = append(m.Pieces, piece(string(rune('a'+i)))), append(chunks, "1")
	}
	if got, err := p.entries(m, chunks); got != nil || err != api.ErrForm {
		t.Error(got, err)
	}
}

// P14.5: a string that the table does not know is none, and does not come to be known when it is asked for.
func TestEntriesUnknown(t *testing.T) {
	p := newPair(t)
	m := api.Manifest{Version: 1, Pieces: []api.Piece{{Path: "a", Has: true, Size: 1, Digest: 1, Chunks: []int{0}, Clock: api.Pair{Left: 1}}}}
	empty := api.Manifest{Version: 1, Pieces: []api.Piece{{Path: "a", Has: true, Digest: 1, Clock: api.Pair{Left: 1}}}}
	zero := record.Copy(empty)
	zero.Pieces[0].Digest = 0
	for range 2 {
		for _, x := range []api.Manifest{empty, zero} {
			if got, err := p.entries(x, nil); got != nil || err != api.ErrForm {
				t.Error(got, err)
			}
		}
		if got, err := p.entries(m, []string{"x"}); got != nil || err != api.ErrForm {
			t.Error(got, err)
		}
	}
	wants(t, "how many digests there are", p.known(), 0)
	p = newPair(t)
	p.ship(api.Order{Archive: []api.Entry{file("q", "x")}})
	if got, err := p.entries(m, []string{"x"}); len(got) != 1 || err != api.OK {
		t.Error(got, err)
	}
}

// behind is l, with spare room behind it, in which something stands.
func behind[T any](l []T, more ...T) []T {
	return append(slices.Clone(l), more...)[:len(l)]
}

// roomy has spare room behind each list.
func roomy(m api.Manifest) api.Manifest {
	m = record.Copy(m)
	m.Pieces = behind(m.Pieces, api.Piece{Path: "spare", Chunks: []int{5}})
	for i, p := range m.Pieces {
		m.Pieces[i].Chunks = behind(p.Chunks, 77, 78)
	}
	return m
}

// everything is all pieces, and what stands in their spare rooms.
func everything(m api.Manifest) []api.Piece {
	l := slices.Clone(m.Pieces[:cap(m.Pieces)])
	for i, p := range l {
		l[i].Chunks = slices.Clone(p.Chunks[:cap(p.Chunks)])
	}
	return l
}

// P14.6: what is handed in stays as it is, its spare room too.
func TestArgumentsStay(t *testing.T) {
	for _, l := range append(archives(), noArchives()...) {
		for _, at := range []api.Cursor{{}, {Version: 200}, {Version: -3}} {
			b := seal.New()
			handed, nonces := behind(l, gone("z"), file("A", "9")), behind([]int{5, 6}, 70, 80)
			want := slices.Clone(handed[:cap(handed)])
			s, err := b.Ship(api.Order{At: at, Archive: handed, Nonces: nonces})
			if !slices.Equal(handed[:cap(handed)], want) || !slices.Equal(nonces[:4], []int{5, 6, 70, 80}) {
				t.Fatalf("%+v became %+v; %v", want, handed[:cap(handed)], nonces[:4])
			}
			if err != api.OK {
				continue
			}
			own := behind([]int{4, 5}, 6, 7)
			b.Manifest(0, at, last(s), own)
			b.Manifest(0, api.Cursor{Ack: 1}, last(s), own)
			m, chunks := roomy(s.Manifest), behind(cut(l), "spare", "room")
			all := everything(m)
			for range 2 {
				b.Entries(m, chunks)
				if !reflect.DeepEqual(everything(m), all) || !slices.Equal(chunks[:cap(chunks)][:len(chunks)+2], append(cut(l), "spare", "room")) || !slices.Equal(own[:4], []int{4, 5, 6, 7}) {
					t.Fatal("what was handed in was changed")
				}
				m.Version = 0
			}
		}
	}
}

// P14.6: who changes what was handed in, or answered, changes nothing else.
func TestAnswersApart(t *testing.T) {
	for _, l := range archives() {
		b := seal.New()
		handed, nonces := slices.Clone(l), []int{5, 6}
		one, _ := b.Ship(api.Order{Archive: handed, Nonces: nonces})
		other := seal.New()
		two, _ := other.Ship(api.Order{Archive: handed, Nonces: nonces})
		for i := range handed {
			handed[i] = file("spoilt", "spoilt")
		}
		nonces[0], nonces[1] = -9, -9
		want := newModel()
		fine, _ := want.ship(api.Order{Archive: l, Nonces: []int{5, 6}})
		if !sameShipment(one, fine) || !sameShipment(two, fine) {
			t.Fatal("what is answered shares what was handed in")
		}
		// What is answered is spoilt, in all depths, and what the box keeps stays.
		value := last(one)
		spoil(one.Manifest)
		for i := range one.Puts[:cap(one.Puts)] {
			one.Puts[:cap(one.Puts)][i] = api.Put{Name: -9}
		}
		if !sameShipment(two, fine) {
			t.Fatal("two answers share memory")
		}
		own := []int{7}
		m, _, err := b.Manifest(0, api.Cursor{}, value, own)
		if err != api.OK || !record.Same(m, fine.Manifest) {
			t.Fatalf("%+v, %v", m, err)
		}
		own[0] = 8
		again, _, _ := b.Manifest(0, api.Cursor{}, value, own)
		spoil(m)
		if !record.Same(again, fine.Manifest) {
			t.Fatal("two answers share memory")
		}
		chunks := cut(l)
		got, _ := b.Entries(again, chunks)
		more, _ := b.Entries(again, chunks)
		for i := range got[:cap(got)] {
			got[:cap(got)][i] = file("spoilt", "spoilt")
		}
		clear(chunks)
		spoil(again)
		if !slices.Equal(more, l) {
			t.Fatal("entries share memory")
		}
	}
}

// spoil writes over all of a manifest's lists, first in the depths.
func spoil(m api.Manifest) {
	l := m.Pieces[:cap(m.Pieces)]
	for i := range l {
		c := l[i].Chunks[:cap(l[i].Chunks)]
		for j := range c {
			c[j] = -99
		}
		l[i] = api.Piece{Path: "spoilt", Size: -99}
	}
}

// P14.6: no two lists of one answer share any memory.
func TestListsApart(t *testing.T) {
	l := many(32, 600)
	p := newPair(t)
	s, _ := p.ship(api.Order{Archive: l})
	m, _, _ := p.manifest(0, api.Cursor{}, last(s), nil)
	for _, m := range []api.Manifest{s.Manifest, m} {
		for i, p := range m.Pieces {
			rest := record.Copy(api.Manifest{Pieces: m.Pieces[i+1:]})
			c := p.Chunks[:cap(p.Chunks)]
			for j := range c {
				c[j] = -99
			}
			if !record.Same(api.Manifest{Pieces: m.Pieces[i+1:]}, rest) {
				t.Fatalf("the chunks of piece %d share memory", i)
			}
		}
	}
}

// shares tells whether two strings have bytes in the same place. A string of one byte is everywhere the same memory.
func shares(a, b string) bool {
	if len(a) < 2 || len(b) < 2 {
		return false
	}
	p, q := uintptr(unsafe.Pointer(unsafe.StringData(a))), uintptr(unsafe.Pointer(unsafe.StringData(b)))
	return p < q+uintptr(len(b)) && q < p+uintptr(len(a))
}

// texts are all strings of a shipment, a manifest, entries.
func texts(x any) []string {
	var all []string
	switch x := x.(type) {
	case api.Shipment:
		for _, p := range x.Puts {
			all = append(all, p.Value)
		}
		return append(all, texts(x.Manifest)...)
	case api.Manifest:
		for _, p := range x.Pieces {
			all = append(all, p.Path)
		}
	case []api.Entry:
		for _, e := range x {
			all = append(all, e.Path, e.Data)
		}
	}
	return all
}

// apart tells where two strings of a and b share bytes.
func apart(t *testing.T, what string, a, b []string) {
	t.Helper()
	for _, s := range a {
		for _, u := range b {
			if shares(s, u) {
				t.Fatalf("%s: %q, %q", what, s, u)
			}
		}
	}
}

// P14.6: strings that are answered are of new memory, too.
func TestStringsNew(t *testing.T) {
	l := []api.Entry{file("aa", text(65, 'a')), file("bb/cc", text(64, 'k')), file("dd", "22"), gone("ee")}
	p := newPair(t)
	s, _ := p.ship(api.Order{Archive: l})
	other, _ := p.ship(api.Order{Archive: l})
	apart(t, "ship, archive", texts(s), texts(l))
	apart(t, "ship, ship", texts(s), texts(other))
	m, _, _ := p.manifest(0, api.Cursor{}, last(s), nil)
	n, _, _ := p.manifest(0, api.Cursor{}, last(s), nil)
	apart(t, "manifest, ship", texts(m), texts(s))
	apart(t, "manifest, manifest", texts(m), texts(n))
	var chunks []string
	for at, put := range s.Puts[:4] {
		x, _ := p.chunk(0, 0, 1, at, put.Value)
		y, _ := p.chunk(0, 0, 1, at, put.Value)
		apart(t, "chunk, chunk", []string{x}, []string{y, put.Value})
		apart(t, "chunk, archive", []string{x}, texts(l))
		chunks = append(chunks, x)
	}
	e, _ := p.entries(m, chunks)
	f, _ := p.entries(m, chunks)
	if !slices.Equal(e, l) {
		t.Fatal(e)
	}
	apart(t, "entries, manifest", texts(e), texts(m))
	apart(t, "entries, chunks", texts(e), chunks)
	apart(t, "entries, entries", texts(e), texts(f))
	apart(t, "entries, archive", texts(e), texts(l))
}

// P14.2 to P14.5: nil lists and empty ones are the same.
func TestNoLists(t *testing.T) {
	for _, l := range [][]api.Entry{nil, {}, make([]api.Entry, 0, 5)} {
		for _, nonces := range [][]int{nil, {}, make([]int, 0, 5)} {
			p := newPair(t)
			s, err := p.ship(api.Order{Archive: l, Nonces: nonces})
			if err != api.OK || len(s.Puts) != 1 || s.Head != 1 || s.Puts[0] != (api.Put{Name: 0, Value: four(0) + four(80)}) {
				t.Errorf("%+v, %v", s, err)
			}
			for _, pieces := range [][]api.Piece{nil, {}, make([]api.Piece, 0, 5)} {
				for _, chunks := range [][]string{nil, {}, make([]string, 0, 5)} {
					if got, err := p.entries(api.Manifest{Version: 1, Pieces: pieces}, chunks); len(got) != 0 || err != api.OK {
						t.Error(got, err)
					}
				}
			}
			for _, own := range [][]int{nil, {}, make([]int, 0, 5)} {
				if m, _, err := p.manifest(0, api.Cursor{}, last(s), own); len(m.Pieces) != 0 || err != api.OK {
					t.Error(m, err)
				}
			}
		}
	}
}

// P14.6: boxes know nothing of each other, and what is asked without a change is told again.
func TestBoxesApart(t *testing.T) {
	p, q := newPair(t), newPair(t)
	s, _ := p.ship(api.Order{Archive: mixed()})
	for _, put := range s.Puts {
		if _, err := q.chunk(0, 0, 1, 0, put.Value); err != api.ErrForm {
			t.Error(err)
		}
	}
	if _, _, err := q.manifest(0, api.Cursor{}, last(s), nil); err != api.ErrForm {
		t.Error(err)
	}
	if _, err := q.entries(s.Manifest, cut(mixed())); err != api.ErrForm {
		t.Error(err)
	}
	for range 3 {
		if m, d, err := p.manifest(0, api.Cursor{}, last(s), nil); err != api.OK || d != cursorOf(s) || !record.Same(m, s.Manifest) {
			t.Error(m, d, err)
		}
		if l, err := p.entries(s.Manifest, cut(mixed())); err != api.OK || !slices.Equal(l, mixed()) {
			t.Error(l, err)
		}
	}
	wants(t, "how many seals there are", q.b.Sealed(), 0)
}

// opens fetches a shipment by its names alone from what was put, and opens it at its place.
func opens(p *pair, author int, c api.Cursor, store map[int]string, own []int) ([]api.Entry, api.Cursor, api.Errno) {
	p.t.Helper()
	name, err := p.name(author, c.Epoch, c.Version+1, -1, 12345)
	if err != api.OK {
		p.t.Fatal(err)
	}
	m, d, err := p.manifest(author, c, store[name], own)
	if err != api.OK {
		return nil, d, err
	}
	var chunks []string
	for at, name := range record.Chunks(m) {
		s, err := p.chunk(author, c.Epoch, m.Version, at, store[name])
		if err != api.OK {
			return nil, d, err
		}
		chunks = append(chunks, s)
	}
	l, err := p.entries(m, chunks)
	return l, d, err
}

// P14.7: two authors ship chains of archives, and each opens all that the other one shipped, in order, as it was.
func TestThereAndBack(t *testing.T) {
	r := rand.New(rand.NewSource(14))
	p := newPair(t)
	store := map[int]string{}
	var own [2][]int
	var at, seen [2]api.Cursor
	var all [2][][]api.Entry
	lists := archives()
	for round := range 40 {
		author := r.Intn(2)
		l := lists[r.Intn(len(lists))]
		s, err := p.ship(api.Order{Author: author, At: at[author], Turn: round%7 == 0, Peer: seen[author], Archive: l, Nonces: r.Perm(9)})
		if err != api.OK {
			t.Fatal(err)
		}
		for _, put := range s.Puts {
			if _, is := store[put.Name]; is {
				t.Fatal("two things are put under one name")
			}
			store[put.Name] = put.Value
		}
		at[author], own[author] = cursorOf(s), append(own[author], s.Head)
		at[author].Ack, all[author] = 0, append(all[author], l)
		if r.Intn(3) > 0 {
			continue
		}
		for who := range 2 {
			peer := 1 - who
			for seen[who].Version < at[peer].Version {
				got, d, err := opens(p, peer, seen[who], store, own[who])
				if err != api.OK || !slices.Equal(got, all[peer][seen[who].Version]) {
					t.Fatalf("%+v, %v", got, err)
				}
				seen[who] = d
			}
		}
	}
	if at[0].Version < 10 || at[1].Version < 10 || seen[0].Version+seen[1].Version < 20 {
		t.Error(at, seen)
	}
}

// P14.7: at another place than its own nothing opens: no value stands in for another one.
func TestNowhereElse(t *testing.T) {
	p := newPair(t)
	type place struct{ author, epoch, version, at int }
	where := map[place]string{}
	var first, second [2]api.Shipment
	for author := range 2 {
		first[author], _ = p.ship(api.Order{Author: author, Archive: mixed(), Turn: true, Nonces: []int{3}})
		second[author], _ = p.ship(api.Order{Author: author, At: cursorOf(first[author]), Archive: mixed(), Nonces: []int{3}})
		for at := range 4 {
			k := at
			if at == 3 {
				k = -1
			}
			where[place{author, 0, 1, k}] = first[author].Puts[at].Value
			where[place{author, 1, 2, k}] = second[author].Puts[at].Value
		}
	}
	if len(where) != 16 {
		t.Fatal(len(where))
	}
	for here, v := range where {
		for there := range where {
			if there.at >= 0 {
				s, err := p.chunk(there.author, there.epoch, there.version, there.at, v)
				if (err == api.OK) != (here == there) || err != api.OK && (err != api.ErrOpen || s != "") {
					t.Errorf("%+v at %+v: %q, %v", here, there, s, err)
				}
				continue
			}
			c := api.Cursor{}
			if there.version == 2 {
				c = cursorOf(first[there.author])
			}
			if _, _, err := p.manifest(there.author, c, v, nil); (err == api.OK) != (here == there) || err != api.OK && err != api.ErrOpen {
				t.Errorf("%+v at %+v: %v", here, there, err)
			}
		}
	}
}

// P14.7: what is put looks alike, whatever is in it, but for how many chunks there are, and the manifest's bucket.
func TestLooksAlike(t *testing.T) {
	same := [][][]api.Entry{
		{{file("a", "x")}, {file("a", text(64, 'k'))}, {file("zz/zz", "other")}, {gone("a"), file("b", "1")}},
		{nil, {gone("a")}},
		{{file("a", text(65, 'a'))}, {file("b", text(128, 0))}, {file("a", text(64, 3)), file("b", "1")}, {file("a", "1"), file("b", ""), file("c", "1")}},
	}
	for _, l := range same {
		var first api.Shipment
		for i, archive := range l {
			for author := range 2 {
				for _, clock := range []api.Pair{{Left: 1}, {Left: 5, Right: api.MaxCount}} {
					o := api.Order{Author: author, Archive: slices.Clone(archive), Nonces: []int{8, 1 << 31, 9}}
					for j := range o.Archive {
						o.Archive[j].Clock = clock
					}
					s, err := seal.New().Ship(o)
					if i == 0 && author == 0 && clock.Left == 1 {
						first = s
					}
					// Some of these manifests have another bucket; of all else nothing may be seen.
					if err != api.OK || len(s.Puts) != len(first.Puts) || !slices.Equal(s.Puts[:len(s.Puts)-1], first.Puts[:len(s.Puts)-1]) || s.Puts[len(s.Puts)-1].Name != first.Puts[len(s.Puts)-1].Name || last(s)[:4] != last(first)[:4] {
						t.Fatalf("%+v: %+v, not %+v", archive, s.Puts, first.Puts)
					}
					if n := len(record.Bytes(s.Manifest)); last(s)[4:] != four(size(n)) {
						t.Errorf("a manifest of %d bytes: %x", n, last(s))
					}
				}
			}
		}
	}
}

// source is numbers that are made of bytes, small ones often.
type source struct{ b []byte }

func (s *source) byte() int {
	if len(s.b) == 0 {
		return 0
	}
	n := int(s.b[0])
	s.b = s.b[1:]
	return n
}

// pick is fine, or now and then another number.
func (s *source) pick(fine int) int {
	switch n := s.byte(); {
	case n < 220:
		return fine
	case n < 245:
		return fine + n - 232
	}
	return edges()[s.byte()%len(edges())]
}

// archive is one that is right mostly.
func (s *source) archive() []api.Entry {
	lists := archives()
	switch n := s.byte(); {
	case n < 100:
		return lists[n%len(lists)]
	case n < 110:
		return noArchives()[n%len(noArchives())]
	}
	var l []api.Entry
	for i := range s.byte() % 5 {
		e := gone(string(rune('a' + i)))
		if n := s.byte(); n < 200 {
			e = file(e.Path, text(n%150, byte(n%3)))
		}
		l = append(l, e)
	}
	return l
}

// shelf is what a story has at hand: what each author shipped, and all values.
type shelf struct {
	p      *pair
	s      *source
	at     [2]api.Cursor
	seen   [2]api.Cursor
	own    [2][]int
	loads  [2][]api.Shipment
	values []string
}

// value is one of those at hand, or one beside them.
func (h *shelf) value() string {
	v := four(h.s.byte()) + four(80)
	if len(h.values) > 0 {
		v = h.values[h.s.byte()%len(h.values)]
	}
	n := h.s.byte()
	if n < 240 {
		return v
	}
	if n < 245 {
		return v[:n%9]
	}
	return v[:4] + four([]int{0, 80, 320, 1280, 5120, 79}[n%6])
}

// ship ships behind what was shipped, mostly.
func (h *shelf) ship() {
	who := h.s.byte() % 2
	author := h.s.pick(who)
	o := api.Order{Author: author, At: h.at[who], Turn: h.s.byte()%4 == 0, Peer: h.seen[who], Archive: h.s.archive()}
	o.At.Version, o.At.Epoch, o.Peer.Head = h.s.pick(o.At.Version), h.s.pick(o.At.Epoch), h.s.pick(o.Peer.Head)
	for range h.s.byte() % 6 {
		o.Nonces = append(o.Nonces, h.s.pick(h.s.byte()))
	}
	s, err := h.p.ship(o)
	if err != api.OK {
		return
	}
	for _, put := range s.Puts {
		h.values = append(h.values, put.Value)
	}
	if author != who || s.Manifest.Version != h.at[who].Version+1 || s.Manifest.Epoch != h.at[who].Epoch {
		return
	}
	h.loads[who], h.own[who] = append(h.loads[who], s), append(h.own[who], s.Head)
	h.at[who] = cursorOf(s)
	h.at[who].Ack = 0
}

// fetch opens the next manifest of the peer, mostly.
func (h *shelf) fetch() {
	who := h.s.byte() % 2
	peer := 1 - who
	v, c := h.value(), h.seen[who]
	if n := len(h.loads[peer]); c.Version < n && h.s.byte() < 200 {
		v = last(h.loads[peer][c.Version])
	}
	c.Version, c.Head, c.Epoch, c.Ack = h.s.pick(c.Version), h.s.pick(c.Head), h.s.pick(c.Epoch), h.s.pick(c.Ack)
	_, d, err := h.p.manifest(h.s.pick(peer), c, v, h.own[who])
	if err == api.OK && c == h.seen[who] {
		h.seen[who] = d
	}
}

// open opens the chunks of a shipment, and makes entries of them, mostly.
func (h *shelf) open() {
	who := h.s.byte() % 2
	if len(h.loads[who]) == 0 {
		return
	}
	s := h.loads[who][h.s.byte()%len(h.loads[who])]
	m := record.Copy(s.Manifest)
	var chunks []string
	for at, put := range s.Puts[:len(s.Puts)-1] {
		v := put.Value
		if h.s.byte() > 250 {
			v = h.value()
		}
		x, _ := h.p.chunk(h.s.pick(who), h.s.pick(m.Epoch), h.s.pick(m.Version), h.s.pick(at), v)
		if h.s.byte() > 250 {
			x += "x"
		}
		chunks = append(chunks, x)
	}
	if n := h.s.byte(); len(m.Pieces) > 0 && n > 200 {
		p := &m.Pieces[n%len(m.Pieces)]
		p.Size, p.Digest = h.s.pick(p.Size), h.s.pick(p.Digest)
	}
	m.Version = h.s.pick(m.Version)
	h.p.entries(m, chunks)
}

// forge seals something at a place of either author.
func (h *shelf) forge() {
	who := h.s.byte() % 2
	m := api.Manifest{Author: h.s.pick(who), Version: h.s.pick(h.seen[1-who].Version + 1), Prev: h.s.pick(h.seen[1-who].Head), Epoch: h.seen[1-who].Epoch, Next: h.seen[1-who].Epoch}
	s := record.Bytes(m)
	if n := h.s.byte(); n > 200 {
		s = text(n, 'f')
	}
	h.values = append(h.values, h.p.seal(mustKey(who, h.s.pick(m.Epoch)), mustLabel(who, m.Version, h.s.byte()%3-1), s, h.s.byte()))
}

// holds tells where a box does not what the promises say, in a story that is made of bytes.
func holds(t *testing.T, b []byte) [2]int {
	t.Helper()
	h := &shelf{p: newPair(t), s: &source{b}}
	for range 40 {
		if len(h.s.b) == 0 {
			break
		}
		switch n := h.s.byte(); {
		case n < 60:
			h.ship()
		case n < 130:
			h.fetch()
		case n < 190:
			h.open()
		case n < 220:
			h.forge()
		default:
			h.p.name(h.s.pick(0), h.s.pick(0), h.s.pick(1), h.s.pick(0), h.s.byte())
		}
	}
	h.p.known()
	return [2]int{len(h.loads[0]) + len(h.loads[1]), h.seen[0].Version + h.seen[1].Version}
}

// P14.1 to P14.7: stories at random.
func TestAtRandom(t *testing.T) {
	r := rand.New(rand.NewSource(41))
	var total [2]int
	for range 1500 {
		b := make([]byte, r.Intn(1200))
		r.Read(b)
		most := 190 + r.Intn(66)
		for i := range b {
			if int(b[i]) > most {
				b[i] = byte(int(b[i]) % (most + 1))
			}
		}
		n := holds(t, b)
		total[0], total[1] = total[0]+n[0], total[1]+n[1]
	}
	if total[0] < 1000 || total[1] < 500 {
		t.Error("too few were shipped, or accepted:", total)
	}
}

// FuzzBoxes holds all calls against the model, in any story.
func FuzzBoxes(f *testing.F) {
	f.Add([]byte{})
	f.Add([]byte{0, 0, 0, 1, 11, 0, 0, 0, 2, 5, 0, 6, 0, 70, 1, 0, 0, 0, 0, 0, 0, 0, 0, 150, 0, 0})
	f.Add(slices.Repeat([]byte{10, 1, 2, 3, 250, 80, 7, 160, 200}, 60))
	f.Fuzz(func(t *testing.T, b []byte) { holds(t, b) })
}
