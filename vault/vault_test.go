package vault_test

import (
	"math/rand"
	"strconv"
	"strings"
	"testing"
	"unsafe"

	"carpetbag/api"
	"carpetbag/vault"
)

// top is how many numbers there are to be drawn.
const top = 1 << 32

// sealing is what is handed to Seal, but for the nonce.
type sealing struct {
	key       int
	ad, plain string
}

// naming is what is handed to Name, but for the nonce.
type naming struct {
	key   int
	label string
}

// model is what a vault must be, told by another way.
type model struct {
	sealed map[int]sealing
	names  map[naming]int
	owners map[int]naming
}

// newModel is one with nothing in it.
func newModel() *model {
	return &model{map[int]sealing{}, map[naming]int{}, map[int]naming{}}
}

// drawn is the number that must be drawn: each is asked in turn.
func drawn[T any](taken map[int]T, nonce int) int {
	n := nonce % top
	if n < 0 {
		n += top
	}
	for {
		if _, is := taken[n]; !is {
			return n
		}
		n++
		if n == top {
			n = 0
		}
	}
}

// sizeOf is how long a string of that length must look.
func sizeOf(length int) int {
	switch {
	case length <= 76:
		return 80
	case length <= 316:
		return 320
	case length <= 1276:
		return 1280
	case length <= 5116:
		return 5120
	}
	return 0
}

// seal is what Seal must answer.
func (m *model) seal(s sealing, nonce int) (int, api.Errno) {
	if len(s.plain) > 5116 {
		return 0, api.ErrRange
	}
	if len(m.sealed) >= 16384 {
		return 0, api.ErrFull
	}
	h := drawn(m.sealed, nonce)
	m.sealed[h] = s
	return h, api.OK
}

// open is what Open must answer.
func (m *model) open(key int, ad string, handle int) (string, api.Errno) {
	s, is := m.sealed[handle]
	if !is || s.key != key || s.ad != ad {
		return "", api.ErrOpen
	}
	return s.plain, api.OK
}

// name is what Name must answer.
func (m *model) name(n naming, nonce int) (int, api.Errno) {
	if name, is := m.names[n]; is {
		return name, api.OK
	}
	if len(m.names) >= 16384 {
		return 0, api.ErrFull
	}
	name := drawn(m.owners, nonce)
	m.names[n], m.owners[name] = name, n
	return name, api.OK
}

// seal seals, and tells where another handle is answered than must be.
func seal(t *testing.T, v *vault.Vault, s sealing, nonce, want int, wantErr api.Errno) {
	t.Helper()
	if h, err := v.Seal(s.key, s.ad, s.plain, nonce); h != want || err != wantErr {
		t.Fatalf("Seal(%d, %.20q, %d bytes, %d) = %d, %v, want %d, %v", s.key, s.ad, len(s.plain), nonce, h, err, want, wantErr)
	}
}

// open opens, and tells where another plain is answered than must be.
func open(t *testing.T, v *vault.Vault, key int, ad string, handle int, want string, wantErr api.Errno) {
	t.Helper()
	if s, err := v.Open(key, ad, handle); s != want || err != wantErr {
		t.Fatalf("Open(%d, %.20q, %d) = %.20q, %v, want %.20q, %v", key, ad, handle, s, err, want, wantErr)
	}
}

// name names, and tells where another name is answered than must be.
func name(t *testing.T, v *vault.Vault, n naming, nonce, want int, wantErr api.Errno) {
	t.Helper()
	if got, err := v.Name(n.key, n.label, nonce); got != want || err != wantErr {
		t.Fatalf("Name(%d, %.20q, %d) = %d, %v, want %d, %v", n.key, n.label, nonce, got, err, want, wantErr)
	}
}

// numbers are of all kinds: for keys, nonces, and handles that are none.
func numbers() []int {
	return []int{
		0, 1, 2, 9, -1, -2, 79, 80, 16383, 16384, 16385, 1<<31 - 1, 1 << 31, -1 << 31, top - 2, top - 1, top, top + 1, -top, -top - 1, 1 - top,
		5 * top, 5*top + 9, -5*top + 9, 1 << 62, 1<<62 + 7, -1 << 62, api.MaxInt, api.MaxInt - 1, api.MinInt, api.MinInt + 1,
	}
}

// texts are strings, no two of them alike, though many nearly so.
func texts() []string {
	return []string{
		"", "a", "b", "A", "ab", "ba", "aa", "a ", " a", "a\x00", "\x00a", "\x00", "\x00\x00", "\xff", "0", "1", "-1", "1a", "\u00e9", "e\u0301", "\xc3", "\ufffd",
		strings.Repeat("x", 76), strings.Repeat("x", 77), strings.Repeat("x", 76) + "y", strings.Repeat("\x00", 5116), strings.Repeat("\x00", 5115) + "\x01",
	}
}

// holds tells where the vault is another one than that: in what opens, and how, in sizes, and in names.
func holds(t *testing.T, v *vault.Vault, m *model) {
	t.Helper()
	if v.Sealed() != len(m.sealed) || v.Named() != len(m.names) {
		t.Fatalf("Sealed() = %d, Named() = %d, want %d, %d", v.Sealed(), v.Named(), len(m.sealed), len(m.names))
	}
	for h, s := range m.sealed {
		open(t, v, s.key, s.ad, h, s.plain, api.OK)
		open(t, v, s.key^1, s.ad, h, "", api.ErrOpen)
		open(t, v, s.key, s.ad+"a", h, "", api.ErrOpen)
		if got := v.Size(h); got != sizeOf(len(s.plain)) {
			t.Fatalf("Size(%d) = %d, of %d bytes", h, got, len(s.plain))
		}
	}
	for n, want := range m.names {
		name(t, v, n, want+1, want, api.OK)
	}
	for _, h := range numbers() {
		if _, is := m.sealed[h]; is {
			continue
		}
		open(t, v, 1, "a", h, "", api.ErrOpen)
		open(t, v, 0, "", h, "", api.ErrOpen)
		if got := v.Size(h); got != 0 {
			t.Fatalf("Size(%d) = %d, and there is no such handle", h, got)
		}
	}
	if v.Sealed() != len(m.sealed) || v.Named() != len(m.names) {
		t.Fatal("asking changed the vault")
	}
}

// P7.1, P7.2: a new vault has nothing sealed, and no names; nothing opens, nothing has a size.
func TestNew(t *testing.T) {
	v := vault.New()
	holds(t, v, newModel())
	for _, h := range numbers() {
		for _, key := range numbers() {
			open(t, v, key, "", h, "", api.ErrOpen)
			open(t, v, key, "a", h, "", api.ErrOpen)
		}
	}
	holds(t, v, newModel())
}

// P7.1: the example.
func TestExample(t *testing.T) {
	v := vault.New()
	seal(t, v, sealing{1, "a", "x"}, 9, 9, api.OK)
	open(t, v, 1, "a", 9, "x", api.OK)
	open(t, v, 2, "a", 9, "", api.ErrOpen)
	if v.Sealed() != 1 || v.Size(9) != 80 {
		t.Error(v.Sealed(), v.Size(9))
	}
}

// P7.1, P7.2: the number is the nonce modulo 2^32, from 0 on, below 0 and beyond 2^32 too.
func TestNonces(t *testing.T) {
	for _, c := range []struct{ nonce, want int }{
		{0, 0}, {1, 1}, {9, 9}, {-1, 4294967295}, {-2, 4294967294}, {4294967294, 4294967294}, {4294967295, 4294967295}, {4294967296, 0}, {4294967297, 1},
		{-4294967295, 1}, {-4294967296, 0}, {-4294967297, 4294967295}, {1 << 31, 1 << 31}, {-1 << 31, 1 << 31}, {3*4294967296 + 77, 77}, {77 - 3*4294967296, 77},
		{api.MaxInt, 4294967295}, {api.MaxInt - 1, 4294967294}, {api.MinInt, 0}, {api.MinInt + 1, 1}, {1 << 62, 0}, {1<<62 - 1, 4294967295},
	} {
		v := vault.New()
		seal(t, v, sealing{1, "a", "x"}, c.nonce, c.want, api.OK)
		open(t, v, 1, "a", c.want, "x", api.OK)
		if c.nonce != c.want {
			open(t, v, 1, "a", c.nonce, "", api.ErrOpen)
		}
		name(t, v, naming{1, "a"}, c.nonce, c.want, api.OK)
	}
}

// P7.1, P7.2: of a number that is not free the next one is drawn that is, past each that is not, past gaps not at all, from 2^32 - 1 on to 0.
func TestNextFree(t *testing.T) {
	for _, row := range [][]struct{ nonce, want int }{
		{{5, 5}, {5, 6}, {5, 7}, {6, 8}, {7, 9}, {4, 4}, {4, 10}, {3, 3}, {3, 11}},
		{{5, 5}, {7, 7}, {5, 6}, {5, 8}, {10, 10}, {7, 9}, {5, 11}, {11, 12}, {1, 1}, {1, 2}, {1, 3}, {1, 4}, {1, 13}},
		{{9, 9}, {8, 8}, {7, 7}, {6, 6}, {6, 10}, {9, 11}, {11, 12}, {20, 20}, {12, 13}},
		{{-1, top - 1}, {-1, 0}, {-1, 1}, {top - 1, 2}, {-2, top - 2}, {-2, 3}, {0, 4}, {api.MaxInt, 5}, {api.MinInt, 6}},
		{{top - 3, top - 3}, {top - 3, top - 2}, {top - 3, top - 1}, {top - 3, 0}, {top - 1, 1}, {top - 4, top - 4}, {top - 4, 2}},
		{{0, 0}, {2, 2}, {-1, top - 1}, {-1, 1}, {-1, 3}, {-3, top - 3}, {-3, top - 2}, {-3, 4}},
		{{0, 0}, {1, 1}, {2, 2}, {-1, top - 1}, {-1, 3}, {top, 4}, {top + 1, 5}, {9 * top, 6}},
		{{1, 1}, {-1, top - 1}, {-1, 0}, {-1, 2}, {1, 3}},
	} {
		v, m := vault.New(), newModel()
		for i, c := range row {
			s, n := sealing{i, "ad", strconv.Itoa(i)}, naming{i, "label"}
			seal(t, v, s, c.nonce, c.want, api.OK)
			name(t, v, n, c.nonce, c.want, api.OK)
			if h, err := m.seal(s, c.nonce); h != c.want || err != api.OK {
				t.Fatal("the other way of telling is wrong", c)
			}
			m.name(n, c.nonce)
			holds(t, v, m)
		}
	}
}

// P7.1: a plain has a bucket up to 5116 bytes, and its size is told, at each bucket's first and last length; one byte more is refused, and nothing has changed.
func TestLengths(t *testing.T) {
	v, m := vault.New(), newModel()
	for _, length := range []int{0, 1, 75, 76, 77, 315, 316, 317, 1275, 1276, 1277, 5115, 5116, 5117, 5118, 5120, 5121, 1 << 14, 1 << 20} {
		s := sealing{1, "a", strings.Repeat("p", length)}
		want, wantErr := m.seal(s, 9)
		if (wantErr == api.OK) != (length <= 5116) {
			t.Fatal("the other way of telling is wrong", length)
		}
		seal(t, v, s, 9, want, wantErr)
		holds(t, v, m)
	}
	if v.Sealed() != 13 {
		t.Error(v.Sealed())
	}
	// What was refused took no number.
	seal(t, v, sealing{1, "a", ""}, 9, 22, api.OK)
}

// P7.1, P7.2: ad, label and key may be any; only the plain is held against the buckets.
func TestAnyAdAndLabel(t *testing.T) {
	v, m := vault.New(), newModel()
	long := append(texts(), strings.Repeat("l", 5117), strings.Repeat("l", 1<<17))
	for i, text := range long {
		for _, key := range numbers() {
			s, n := sealing{key, text, strconv.Itoa(key) + text[:min(i, len(text))]}, naming{key, text}
			h, _ := m.seal(s, key)
			seal(t, v, s, key, h, api.OK)
			k, _ := m.name(n, key)
			name(t, v, n, key, k, api.OK)
		}
	}
	holds(t, v, m)
}

// P7.1: the empty plain, and the empty ad, are like others: what is none, and told with an error, is not the same as what is empty.
func TestEmpty(t *testing.T) {
	v := vault.New()
	seal(t, v, sealing{0, "", ""}, 0, 0, api.OK)
	open(t, v, 0, "", 0, "", api.OK)
	open(t, v, 0, "\x00", 0, "", api.ErrOpen)
	open(t, v, 1, "", 0, "", api.ErrOpen)
	open(t, v, 0, "", 1, "", api.ErrOpen)
	if v.Size(0) != 80 || v.Size(1) != 0 || v.Sealed() != 1 || v.Named() != 0 {
		t.Error(v.Size(0), v.Size(1), v.Sealed(), v.Named())
	}
	name(t, v, naming{0, ""}, 0, 0, api.OK)
	name(t, v, naming{0, ""}, 1, 0, api.OK)
	name(t, v, naming{0, "\x00"}, 0, 1, api.OK)
	name(t, v, naming{1, ""}, 0, 2, api.OK)
	if v.Named() != 3 || v.Sealed() != 1 {
		t.Error(v.Named(), v.Sealed())
	}
}

// P7.1, P7.4: each pair of key and ad opens just what was sealed with it, under its handle, and another one nothing.
func TestOnlyAsItWasSealed(t *testing.T) {
	v := vault.New()
	keys, ads := numbers(), texts()
	var handles []int
	for _, key := range keys {
		for _, ad := range ads {
			h, err := v.Seal(key, strings.Clone(ad), "plain of "+strconv.Itoa(key)+" "+ad[:min(len(ad), 5000)], 7)
			if err != api.OK {
				t.Fatal(err)
			}
			handles = append(handles, h)
		}
	}
	for i, h := range handles {
		for j, key := range keys {
			for k, ad := range ads {
				if i == j*len(ads)+k {
					open(t, v, key, ad, h, "plain of "+strconv.Itoa(key)+" "+ad[:min(len(ad), 5000)], api.OK)
				} else {
					open(t, v, key, ad, h, "", api.ErrOpen)
				}
			}
		}
	}
}

// P7.1: a number that is no handle opens nothing, nor one that is a name, nor the nonce that a handle was drawn of.
func TestNoHandle(t *testing.T) {
	v, m := vault.New(), newModel()
	s, n := sealing{1, "a", "x"}, naming{1, "a"}
	name(t, v, n, 77, 77, api.OK)
	m.name(n, 77)
	seal(t, v, s, top+9, 9, api.OK)
	m.seal(s, top+9)
	for _, h := range append(numbers(), 8, 10, 77, top+77, 9-top, -9) {
		if h == 9 {
			continue
		}
		open(t, v, 1, "a", h, "", api.ErrOpen)
		if got := v.Size(h); got != 0 {
			t.Errorf("Size(%d) = %d", h, got)
		}
	}
	holds(t, v, m)
}

// P7.1: the same string, sealed twice alike, has two handles, and both open.
func TestSealedTwice(t *testing.T) {
	v := vault.New()
	s := sealing{1, "a", "x"}
	for i := range 20 {
		seal(t, v, s, 9, 9+i, api.OK)
		if v.Sealed() != i+1 {
			t.Fatalf("Sealed() = %d", v.Sealed())
		}
	}
	for i := range 20 {
		open(t, v, 1, "a", 9+i, "x", api.OK)
	}
}

// P7.2: a key and a label have one name, whatever the nonce is; another key, or another label, has another one.
func TestNames(t *testing.T) {
	v := vault.New()
	given := map[int]naming{}
	for _, key := range numbers() {
		for _, label := range texts() {
			n := naming{key, label}
			first, err := v.Name(key, label, 5)
			if other, is := given[first]; is || err != api.OK {
				t.Fatalf("%v has the name %d, %v, of %v", n, first, err, other)
			}
			given[first] = n
			if v.Named() != len(given) {
				t.Fatalf("Named() = %d, want %d", v.Named(), len(given))
			}
			for _, nonce := range numbers() {
				name(t, v, naming{key, strings.Clone(label)}, nonce, first, api.OK)
			}
		}
	}
	for want, n := range given {
		name(t, v, n, want+1, want, api.OK)
	}
	if v.Sealed() != 0 || v.Named() != len(given) {
		t.Error(v.Sealed(), v.Named())
	}
}

// P7.2: a name that was there already takes no number of its nonce.
func TestKnownNameTakesNoNumber(t *testing.T) {
	v := vault.New()
	name(t, v, naming{1, "a"}, 5, 5, api.OK)
	name(t, v, naming{1, "a"}, 8, 5, api.OK)
	name(t, v, naming{1, "b"}, 8, 8, api.OK)
	name(t, v, naming{1, "c"}, 5, 6, api.OK)
	name(t, v, naming{1, "b"}, 5, 8, api.OK)
}

// P7.1, P7.2: handles and names are drawn apart: one takes no number from the other, nor room.
func TestHandlesApartFromNames(t *testing.T) {
	v := vault.New()
	for i := range 30 {
		name(t, v, naming{i, "a"}, 5, 5+i, api.OK)
	}
	for i := range 40 {
		seal(t, v, sealing{1, "a", "x"}, 5, 5+i, api.OK)
	}
	name(t, v, naming{30, "a"}, 5, 35, api.OK)
	if v.Sealed() != 40 || v.Named() != 31 {
		t.Error(v.Sealed(), v.Named())
	}
}

// P7.1: MaxSealed strings are sealed, and no more; what is too long is told first, and what was refused changes nothing.
func TestFullOfSeals(t *testing.T) {
	if api.MaxSealed != 16384 {
		t.Fatal(api.MaxSealed)
	}
	v, m := vault.New(), newModel()
	for i := range 16384 {
		s := sealing{i % 3, strconv.Itoa(i % 5), strconv.Itoa(i)}
		seal(t, v, s, 7*i, 7*i, api.OK)
		m.sealed[7*i] = s
	}
	for _, nonce := range numbers() {
		seal(t, v, sealing{1, "a", "x"}, nonce, 0, api.ErrFull)
		seal(t, v, sealing{1, "a", strings.Repeat("x", 5117)}, nonce, 0, api.ErrRange)
	}
	holds(t, v, m)
	for h := range 7 * 16384 {
		if got := v.Size(h); (got != 0) != (h%7 == 0) {
			t.Fatalf("Size(%d) = %d", h, got)
		}
	}
	// There is room for names still.
	name(t, v, naming{1, "a"}, 7, 7, api.OK)
	seal(t, v, sealing{1, "a", "x"}, 1, 0, api.ErrFull)
	m.name(naming{1, "a"}, 7)
	holds(t, v, m)
}

// P7.2: MaxSealed names are given, and no more; those that are given are told all the same.
func TestFullOfNames(t *testing.T) {
	v, m := vault.New(), newModel()
	for i := range 16384 {
		n := naming{i % 3, strconv.Itoa(i)}
		name(t, v, n, 3*i, 3*i, api.OK)
		m.names[n], m.owners[3*i] = 3*i, n
	}
	for _, nonce := range numbers() {
		name(t, v, naming{1, "a"}, nonce, 0, api.ErrFull)
		name(t, v, naming{1, "0"}, nonce, 0, api.ErrFull)
		name(t, v, naming{0, "0"}, nonce, 0, api.OK)
		name(t, v, naming{1, "1"}, nonce, 3, api.OK)
		name(t, v, naming{0, "16383"}, nonce, 49149, api.OK)
	}
	holds(t, v, m)
	// There is room for seals still.
	seal(t, v, sealing{1, "a", "x"}, 3, 3, api.OK)
	name(t, v, naming{1, "a"}, 1, 0, api.ErrFull)
	m.seal(sealing{1, "a", "x"}, 3)
	holds(t, v, m)
}

// P7.1, P7.2: one less than MaxSealed leaves room for just one.
func TestOneLeft(t *testing.T) {
	v := vault.New()
	for i := range 16383 {
		seal(t, v, sealing{1, "a", "x"}, i, i, api.OK)
		name(t, v, naming{i, "a"}, i, i, api.OK)
	}
	if v.Sealed() != 16383 || v.Named() != 16383 {
		t.Fatal(v.Sealed(), v.Named())
	}
	seal(t, v, sealing{1, "a", "y"}, 0, 16383, api.OK)
	seal(t, v, sealing{1, "a", "z"}, 99999, 0, api.ErrFull)
	name(t, v, naming{-1, "a"}, 0, 16383, api.OK)
	name(t, v, naming{-2, "a"}, 99999, 0, api.ErrFull)
	name(t, v, naming{-1, "a"}, 99999, 16383, api.OK)
	if v.Sealed() != 16384 || v.Named() != 16384 || v.Size(99999) != 0 {
		t.Error(v.Sealed(), v.Named())
	}
}

// P7.1, P7.2: a vault is filled by one nonce alone, from shortly ahead of the greatest number on, and in no long time.
func TestFilledByOneNonce(t *testing.T) {
	v := vault.New()
	for i := range 16384 {
		want := (top - 100 + i) % top
		seal(t, v, sealing{i, "a", "x"}, -100, want, api.OK)
		name(t, v, naming{i, "a"}, -100, want, api.OK)
	}
	seal(t, v, sealing{1, "a", "x"}, -100, 0, api.ErrFull)
	name(t, v, naming{-1, "a"}, -100, 0, api.ErrFull)
	for i := range 16384 {
		open(t, v, i, "a", (top-100+i)%top, "x", api.OK)
		name(t, v, naming{i, "a"}, 0, (top-100+i)%top, api.OK)
	}
}

// P7.1, P7.2: neither asking nor what told an error changes anything: the answers behind it are as if it had not been.
func TestNothingChanges(t *testing.T) {
	v, m := vault.New(), newModel()
	for i, nonce := range numbers() {
		for _, h := range numbers() {
			v.Open(1, "a", h)
			v.Open(h, "", nonce)
			v.Size(h)
			v.Seal(h, "a", strings.Repeat("x", 5117), nonce)
			v.Sealed()
			v.Named()
		}
		holds(t, v, m)
		s, n := sealing{i, "a", "x"}, naming{i, "b"}
		h, _ := m.seal(s, nonce)
		seal(t, v, s, nonce, h, api.OK)
		k, _ := m.name(n, nonce)
		name(t, v, n, nonce, k, api.OK)
		holds(t, v, m)
	}
}

// P7.1, P7.2: two vaults side by side know nothing of each other; one that is full leaves room in the other.
func TestVaultsApart(t *testing.T) {
	x, y := vault.New(), vault.New()
	seal(t, x, sealing{1, "a", "x"}, 9, 9, api.OK)
	name(t, x, naming{1, "a"}, 9, 9, api.OK)
	holds(t, y, newModel())
	seal(t, y, sealing{1, "a", "y"}, 9, 9, api.OK)
	name(t, y, naming{1, "a"}, 8, 8, api.OK)
	open(t, x, 1, "a", 9, "x", api.OK)
	open(t, y, 1, "a", 9, "y", api.OK)
	name(t, x, naming{1, "a"}, 0, 9, api.OK)
	for i := range 16383 {
		seal(t, x, sealing{1, "a", "x"}, 100+i, 100+i, api.OK)
		name(t, x, naming{2, strconv.Itoa(i)}, 100+i, 100+i, api.OK)
	}
	seal(t, x, sealing{1, "a", "x"}, 50, 0, api.ErrFull)
	name(t, x, naming{3, "a"}, 50, 0, api.ErrFull)
	seal(t, y, sealing{1, "a", "z"}, 100, 100, api.OK)
	name(t, y, naming{3, "a"}, 100, 100, api.OK)
	holds(t, vault.New(), newModel())
	if x.Sealed() != 16384 || x.Named() != 16384 || y.Sealed() != 2 || y.Named() != 2 {
		t.Error(x.Sealed(), x.Named(), y.Sealed(), y.Named())
	}
}

// shares tells whether the bytes of a and b overlap.
func shares(a, b string) bool {
	if a == "" || b == "" {
		return false
	}
	p, q := uintptr(unsafe.Pointer(unsafe.StringData(a))), uintptr(unsafe.Pointer(unsafe.StringData(b)))
	return p < q+uintptr(len(b)) && q < p+uintptr(len(a))
}

// P7.3: what Open answers shares no bytes with what was handed in, nor with another answer.
func TestOpenIsNew(t *testing.T) {
	v := vault.New()
	for _, s := range texts() {
		given, ad := strings.Clone(s), strings.Clone(s)
		h, _ := v.Seal(1, ad, given, 7)
		again := strings.Clone(s)
		first, _ := v.Open(1, again, h)
		second, _ := v.Open(1, again, h)
		for _, other := range []string{given, ad, again, second} {
			if shares(first, other) {
				t.Errorf("Open answers no new memory, of %.20q", s)
			}
		}
		if shares(second, given) || shares(second, ad) || shares(second, again) {
			t.Errorf("Open answers no new memory the second time, of %.20q", s)
		}
	}
}

// room is bytes, and a string that lies within them.
func room(s string) ([]byte, string) {
	b := []byte("ahead" + s + "behind")
	return b, unsafe.String(&b[5], len(s))
}

// spoil overwrites them all.
func spoil(bytes ...[]byte) {
	for _, b := range bytes {
		for i := range b {
			b[i] = '#'
		}
	}
}

// P7.3, P7.1, P7.2: what is handed in is not kept: who changes its bytes afterwards changes neither what is sealed nor what has a name.
func TestNothingHandedInIsKept(t *testing.T) {
	for _, text := range []string{"a", "ab", strings.Repeat("x", 600)} {
		v, m := vault.New(), newModel()
		adRoom, ad := room(text)
		plainRoom, plain := room(text + text)
		labelRoom, label := room(text)
		seal(t, v, sealing{1, ad, plain}, 9, 9, api.OK)
		name(t, v, naming{1, label}, 9, 9, api.OK)
		open(t, v, 1, ad, 9, text+text, api.OK)
		name(t, v, naming{1, label}, 8, 9, api.OK)
		spoil(adRoom, plainRoom, labelRoom)
		m.seal(sealing{1, text, text + text}, 9)
		m.name(naming{1, text}, 9)
		holds(t, v, m)
		open(t, v, 1, ad, 9, "", api.ErrOpen)
		name(t, v, naming{1, label}, 9, 10, api.OK)
	}
}

// P7.3: who changes the bytes of an answer changes nothing that is sealed, nor what is answered next.
func TestAnswersAreNotKept(t *testing.T) {
	for _, text := range []string{"a", "ab", strings.Repeat("x", 600)} {
		v := vault.New()
		seal(t, v, sealing{1, "ad", strings.Clone(text)}, 9, 9, api.OK)
		told, _ := v.Open(1, "ad", 9)
		spoil(unsafe.Slice(unsafe.StringData(told), len(told)))
		open(t, v, 1, "ad", 9, text, api.OK)
	}
}

// P7.4: handles and sizes hang on nonces and buckets alone: other keys, ads and plains of the same buckets are told alike, whether they are alike among themselves or not.
func TestHandlesTellNothing(t *testing.T) {
	r := rand.New(rand.NewSource(7))
	lasts := []int{76, 316, 1276, 5116}
	firsts := []int{0, 77, 317, 1277}
	for range 20 {
		x, y := vault.New(), vault.New()
		for range 100 {
			nonce, b := r.Intn(40)-20, r.Intn(4)
			n := firsts[b] + r.Intn(lasts[b]-firsts[b]+1)
			h, err := x.Seal(1, "a", strings.Repeat("x", lasts[b]), nonce)
			k, other := y.Seal(r.Int(), strconv.Itoa(r.Int()), strings.Repeat(string(rune('a'+r.Intn(26))), n), nonce)
			if h != k || err != api.OK || other != api.OK || x.Size(h) != y.Size(h) {
				t.Fatalf("%d, %v, looks as %d bytes, and %d, %v, as %d", h, err, x.Size(h), k, other, y.Size(k))
			}
		}
	}
}

// P7.4: names hang on nonces, and on which keys and labels are alike, alone: other ones, alike where these are, have the same names; what is sealed beside them is of no matter.
func TestNamesTellNothing(t *testing.T) {
	r := rand.New(rand.NewSource(70))
	for range 20 {
		x, y := vault.New(), vault.New()
		far := r.Int()
		for i := range 100 {
			nonce, key, label := r.Intn(40)-20, r.Intn(5), r.Intn(5)
			a, err := x.Name(key, strings.Repeat("l", label), nonce)
			b, other := y.Name(far-key, "other "+strconv.Itoa(-label), nonce)
			if a != b || err != api.OK || other != api.OK {
				t.Fatalf("names %d, %v, and %d, %v", a, err, b, other)
			}
			y.Seal(i, "a", "x", nonce)
		}
	}
}

// P7.4: no two handles are the same, and no two names, however near the nonces are.
func TestApart(t *testing.T) {
	r := rand.New(rand.NewSource(71))
	v := vault.New()
	handles, names := map[int]int{}, map[int]int{}
	for i := range 5000 {
		h, err := v.Seal(1, "a", strconv.Itoa(i), r.Intn(9000)-4500)
		n, other := v.Name(i, "a", r.Intn(9000)-4500)
		if err != api.OK || other != api.OK || h < 0 || h >= top || n < 0 || n >= top {
			t.Fatal(h, err, n, other)
		}
		handles[h]++
		names[n]++
		open(t, v, 1, "a", h, strconv.Itoa(i), api.OK)
	}
	if len(handles) != 5000 || len(names) != 5000 {
		t.Error(len(handles), len(names))
	}
}

// run does those steps, four bytes each, to two vaults side by side, and holds them against what they must be.
func run(t *testing.T, steps []byte) {
	t.Helper()
	vaults := []*vault.Vault{vault.New(), vault.New()}
	models := []*model{newModel(), newModel()}
	all := texts()
	for len(steps) >= 4 {
		do, near, which, long := steps[0], int(int8(steps[1])), int(steps[2]), int(steps[3])
		steps = steps[4:]
		v, m := vaults[do%2], models[do%2]
		number, key, text := near/8+(near%3)*top, which%3-1, all[which/3%12]
		switch do / 2 % 4 {
		case 0, 1:
			s := sealing{key, text, strings.Repeat("p", long*long/12)}
			want, wantErr := m.seal(s, number)
			seal(t, v, s, number, want, wantErr)
		case 2:
			want, wantErr := m.name(naming{key, text}, number)
			name(t, v, naming{key, text}, number, want, wantErr)
		case 3:
			want, wantErr := m.open(key, text, near)
			open(t, v, key, text, near, want, wantErr)
		}
	}
	holds(t, vaults[0], models[0])
	holds(t, vaults[1], models[1])
}

// P7.1, P7.2, P7.4: many steps, at random but always the same, against another way of telling.
func TestManySteps(t *testing.T) {
	r := rand.New(rand.NewSource(72))
	for range 500 {
		steps := make([]byte, 4*r.Intn(120))
		r.Read(steps)
		run(t, steps)
	}
}

// FuzzSteps is the same at any steps.
func FuzzSteps(f *testing.F) {
	f.Add([]byte{0, 9, 1, 1, 0, 9, 1, 1, 6, 1, 1, 0, 4, 9, 1, 0, 4, 9, 2, 0, 1, 255, 4, 255})
	f.Add([]byte{2, 248, 3, 200, 2, 248, 3, 250, 4, 248, 7, 0, 5, 128, 30, 0, 7, 0, 3, 0})
	f.Fuzz(func(t *testing.T, steps []byte) {
		run(t, steps[:min(len(steps), 800)])
	})
}
