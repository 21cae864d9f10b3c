package pad_test

import (
	"math/rand"
	"slices"
	"strings"
	"testing"
	"unsafe"

	"carpetbag/api"
	"carpetbag/pad"
)

// widths are the sizes that the document names, written out without the package under test.
func widths() []int { return []int{80, 320, 1280, 5120} }

// longest is the greatest length that is padded.
const longest = 5116

// number is a number's bytes, the high ones first.
func number(n int) string {
	return string([]byte{byte(n >> 24), byte(n >> 16), byte(n >> 8), byte(n)})
}

// zeroes is a string of n of them.
func zeroes(n int) string { return strings.Repeat("\x00", n) }

// laid is s as it is laid into a bucket of that size, be it the right one or not.
func laid(s string, size int) string {
	return number(len(s)) + s + zeroes(size-4-len(s))
}

// bucket tells by another way which bucket a string of n bytes has.
func bucket(n int) int {
	switch {
	case n < 0 || n > 5116:
		return -1
	case n > 1276:
		return 3
	case n > 316:
		return 2
	case n > 76:
		return 1
	}
	return 0
}

// padded tells by another way what the Pad of s is, if there is one.
func padded(s string) string { return laid(s, widths()[bucket(len(s))]) }

// stripped tells by another way whose Pad s is, if it is one.
func stripped(s string) (string, bool) {
	if len(s) < 4 {
		return "", false
	}
	n := int(s[0])<<24 | int(s[1])<<16 | int(s[2])<<8 | int(s[3])
	if b := bucket(n); b < 0 || len(s) != widths()[b] {
		return "", false
	}
	return s[4 : 4+n], strings.Trim(s[4+n:], "\x00") == ""
}

// edges are the lengths at which something changes, and those next to them.
func edges() []int {
	return []int{0, 1, 2, 3, 4, 5, 75, 76, 77, 79, 80, 81, 255, 256, 315, 316, 317, 319, 320, 321, 1275, 1276, 1277, 1279, 1280, 1281, 5115, 5116}
}

// texts are strings of n bytes: such as look like padding, like numbers, and like no text at all.
func texts(n int) []string {
	r := rand.New(rand.NewSource(int64(n)))
	mixed := make([]byte, n)
	r.Read(mixed)
	return []string{
		zeroes(n),
		strings.Repeat("x", n),
		strings.Repeat("\xff", n),
		(strings.Repeat("\x00", n/2) + strings.Repeat("y", n))[:n],
		(strings.Repeat("y", n-n/2) + zeroes(n))[:n],
		strings.Repeat(number(n), n/4+1)[:n],
		string(mixed),
	}
}

// strip tells where Strip answers otherwise than it must.
func strip(t *testing.T, s string) {
	t.Helper()
	want, is := stripped(s)
	wantErr := api.OK
	if !is {
		want, wantErr = "", api.ErrForm
	}
	if got, err := pad.Strip(s); got != want || err != wantErr {
		t.Errorf("Strip of %d bytes %.20q: %d bytes %.20q, %v, want %d bytes %.20q, %v", len(s), s, len(got), got, err, len(want), want, wantErr)
	}
}

// refused tells where Strip does not refuse.
func refused(t *testing.T, name, s string) {
	t.Helper()
	if got, err := pad.Strip(s); got != "" || err != api.ErrForm {
		t.Errorf("Strip of %s: %d bytes %.20q, %v", name, len(got), got, err)
	}
}

// P5.1: the sizes of the buckets.
func TestSizes(t *testing.T) {
	if got := pad.Sizes(); !slices.Equal(got, []int{80, 320, 1280, 5120}) {
		t.Errorf("Sizes() = %v", got)
	}
}

// P5.1: a bucket's size, and 0 where there is no bucket.
func TestSize(t *testing.T) {
	for _, c := range []struct{ bucket, want int }{
		{0, 80},
		{1, 320},
		{2, 1280},
		{3, 5120},
		{4, 0},
		{5, 0},
		{80, 0},
		{1 << 32, 0},
		{1<<32 + 1, 0},
		{api.MaxInt, 0},
		{-1, 0},
		{-4, 0},
		{-1 << 32, 0},
		{api.MinInt, 0},
		{api.MinInt + 1, 0},
	} {
		if got := pad.Size(c.bucket); got != c.want {
			t.Errorf("Size(%d) = %d, want %d", c.bucket, got, c.want)
		}
	}
}

// P5.1: the first bucket that is wide enough, at its edges.
func TestBucket(t *testing.T) {
	for _, c := range []struct{ n, want int }{
		{0, 0},
		{1, 0},
		{75, 0},
		{76, 0},
		{77, 1},
		{80, 1},
		{315, 1},
		{316, 1},
		{317, 2},
		{320, 2},
		{1275, 2},
		{1276, 2},
		{1277, 3},
		{1280, 3},
		{5115, 3},
		{5116, 3},
		{5117, -1},
		{5120, -1},
		{5121, -1},
		{api.MaxBytes, -1},
		{1 << 32, -1},
		{1<<32 + 7, -1},
		{api.MaxInt, -1},
		{api.MaxInt - 1, -1},
		{api.MaxInt - 3, -1},
		{api.MaxInt - 4, -1},
		{-1, -1},
		{-2, -1},
		{-4, -1},
		{-5, -1},
		{-80, -1},
		{-1 << 32, -1},
		{api.MinInt, -1},
		{api.MinInt + 4, -1},
	} {
		if got := pad.Bucket(c.n); got != c.want {
			t.Errorf("Bucket(%d) = %d, want %d", c.n, got, c.want)
		}
	}
}

// P5.1: Bucket, Size and Sizes tell of the same buckets: each number's is wide enough, and the one ahead is not.
func TestBucketIsTheFirst(t *testing.T) {
	sizes := pad.Sizes()
	for n := range 6000 {
		b := pad.Bucket(n)
		if b != bucket(n) {
			t.Fatalf("Bucket(%d) = %d, want %d", n, b, bucket(n))
		}
		if b < 0 {
			continue
		}
		if pad.Size(b) != sizes[b] || sizes[b] < n+4 {
			t.Fatalf("Bucket(%d) = %d, of the sizes %v", n, b, sizes)
		}
		if b > 0 && pad.Size(b-1) >= n+4 {
			t.Fatalf("Bucket(%d) = %d, but %d is wide enough", n, b, b-1)
		}
	}
}

// P5.2: the bytes of the string, and zeroes behind.
func TestPad(t *testing.T) {
	for _, c := range []struct{ s, want string }{
		{"", zeroes(80)},
		{"a", "\x00\x00\x00\x01a" + zeroes(75)},
		{"ab", "\x00\x00\x00\x02ab" + zeroes(74)},
		{"\x00", "\x00\x00\x00\x01" + zeroes(76)},
		{"\xc3\xa9", "\x00\x00\x00\x02\xc3\xa9" + zeroes(74)},
		{strings.Repeat("z", 76), "\x00\x00\x00\x4c" + strings.Repeat("z", 76)},
		{strings.Repeat("z", 77), "\x00\x00\x00\x4d" + strings.Repeat("z", 77) + zeroes(239)},
		{strings.Repeat("z", 316), "\x00\x00\x01\x3c" + strings.Repeat("z", 316)},
		{strings.Repeat("z", 317), "\x00\x00\x01\x3d" + strings.Repeat("z", 317) + zeroes(959)},
		{strings.Repeat("z", 1276), "\x00\x00\x04\xfc" + strings.Repeat("z", 1276)},
		{strings.Repeat("z", 1277), "\x00\x00\x04\xfd" + strings.Repeat("z", 1277) + zeroes(3839)},
		{strings.Repeat("z", 5116), "\x00\x00\x13\xfc" + strings.Repeat("z", 5116)},
	} {
		if got, err := pad.Pad(c.s); got != c.want || err != api.OK {
			t.Errorf("Pad of %d bytes: %d bytes %.20q, %v, want %d bytes %.20q", len(c.s), len(got), got, err, len(c.want), c.want)
		}
	}
}

// P5.2: the same at each length that is padded.
func TestPadAtEachLength(t *testing.T) {
	for n := range longest + 1 {
		for _, s := range texts(n) {
			if got, err := pad.Pad(s); got != padded(s) || err != api.OK {
				t.Fatalf("Pad of %d bytes %.20q: %d bytes %.20q, %v", n, s, len(got), got, err)
			}
		}
	}
}

// P5.2: what no bucket is wide enough for is not padded, nor cut.
func TestPadTooLong(t *testing.T) {
	for _, n := range []int{5117, 5118, 5119, 5120, 5121, 6000, api.MaxBytes - 1, api.MaxBytes, api.MaxBytes + 1, 1 << 16, 1<<16 + 2, 1 << 20} {
		for _, s := range []string{zeroes(n), strings.Repeat("z", n)} {
			if got, err := pad.Pad(s); got != "" || err != api.ErrRange {
				t.Errorf("Pad of %d bytes: %d bytes, %v", n, len(got), err)
			}
		}
	}
}

// P5.2: what is laid as Pad lays it is stripped, at each length.
func TestStripAtEachLength(t *testing.T) {
	for n := range longest + 1 {
		for _, s := range texts(n) {
			if got, err := pad.Strip(padded(s)); got != s || err != api.OK {
				t.Fatalf("Strip of %d bytes %.20q: %d bytes %.20q, %v", n, s, len(got), got, err)
			}
		}
	}
}

// P5.2: what is shorter than a number's bytes is no string's Pad.
func TestStripShort(t *testing.T) {
	for _, s := range []string{"", "\x00", "\x00\x00", "\x00\x00\x00", "\x00\x00\x00\x00", "a", "ab", "abc", "abcd", "\x00\x00\x00\x01", "\x00\x00\x00\x01a"} {
		refused(t, "what is too short", s)
	}
}

// P5.2: what is as long as no bucket is no string's Pad, be it cut, or longer.
func TestStripLengths(t *testing.T) {
	for n := range 5400 {
		if slices.Contains(widths(), n) {
			continue
		}
		refused(t, "zeroes", zeroes(n))
		refused(t, "other bytes", strings.Repeat("z", n))
		if n >= 4 {
			refused(t, "one string's bytes alone", laid(strings.Repeat("z", n-4), n))
		}
		if n >= 6 {
			refused(t, "two bytes in no bucket", laid("ab", n))
		}
	}
	for _, n := range []int{api.MaxBytes, api.MaxBytes + 4, 1 << 16, 1<<16 + 80, 1 << 20} {
		refused(t, "many zeroes", zeroes(n))
		refused(t, "a long string", laid(strings.Repeat("z", n-4), n))
	}
	for _, n := range edges() {
		s := padded(strings.Repeat("z", n))
		refused(t, "what was cut by a byte", s[:len(s)-1])
		refused(t, "what lost its first byte", s[1:])
		refused(t, "what has a zero more", s+"\x00")
		refused(t, "what has a zero ahead", "\x00"+s)
		refused(t, "what stands twice", s+s)
	}
}

// P5.2: a string in a bucket that is not the first that is wide enough is not what Pad made.
func TestStripWideBuckets(t *testing.T) {
	for _, n := range edges() {
		for _, s := range texts(n) {
			for b, size := range widths() {
				if b <= bucket(n) {
					continue
				}
				refused(t, "a string in a bucket that is too wide", laid(s, size))
			}
		}
	}
}

// P5.2: the same at each length and each bucket, the right one or not.
func TestStripEachBucket(t *testing.T) {
	for n := range longest + 1 {
		s := strings.Repeat("z", n)
		for _, size := range widths() {
			if n+4 <= size {
				strip(t, laid(s, size))
			}
		}
	}
}

// P5.2: a length that says more than there is.
func TestStripSaysMore(t *testing.T) {
	for _, size := range widths() {
		for _, n := range []int{size - 3, size - 2, size, size + 1, 2 * size, 5116, 5117, 5120, api.MaxBytes - 1, api.MaxBytes, api.MaxBytes + 1, 1 << 16, 1 << 24, 1<<31 - 1, 1 << 31, 1<<32 - 1} {
			if n <= size-4 {
				continue
			}
			refused(t, "zeroes behind a length that is too great", number(n)+zeroes(size-4))
			refused(t, "bytes behind a length that is too great", number(n)+strings.Repeat("z", size-4))
		}
	}
}

// P5.2: a byte behind the string that is not zero, at each place.
func TestStripBehind(t *testing.T) {
	for _, n := range edges() {
		b := []byte(padded(strings.Repeat("z", n)))
		for i := n + 4; i < len(b); i++ {
			for _, c := range []byte{1, ' ', 128, 255} {
				b[i] = c
				if got, err := pad.Strip(string(b)); got != "" || err != api.ErrForm {
					t.Fatalf("Strip of %d bytes with %d at %d: %d bytes, %v", n, c, i, len(got), err)
				}
			}
			b[i] = 0
		}
	}
}

// P5.2: one byte that is changed, at each place of a small bucket: another string's Pad, or none's.
func TestStripChanged(t *testing.T) {
	for _, n := range []int{0, 1, 2, 40, 75, 76} {
		for _, s := range texts(n) {
			b := []byte(padded(s))
			for i, kept := range b {
				for c := range 256 {
					b[i] = byte(c)
					strip(t, string(b))
				}
				b[i] = kept
			}
		}
	}
}

// P5.2: each number ahead of bytes, and of zeroes, in each bucket.
func TestStripEachNumber(t *testing.T) {
	for _, size := range widths() {
		for n := range 5200 {
			strip(t, number(n)+zeroes(size-4))
			strip(t, number(n)+strings.Repeat("z", min(n, size-4))+zeroes(max(size-4-n, 0)))
		}
		for n := range 32 {
			strip(t, number(1<<n)+zeroes(size-4))
			strip(t, number(1<<n|1)+zeroes(size-4))
		}
	}
}

// shares tells whether the bytes of a and b overlap.
func shares(a, b string) bool {
	if a == "" || b == "" {
		return false
	}
	p, q := uintptr(unsafe.Pointer(unsafe.StringData(a))), uintptr(unsafe.Pointer(unsafe.StringData(b)))
	return p < q+uintptr(len(b)) && q < p+uintptr(len(a))
}

// P5.3: who changes the sizes that were answered, or their spare room, changes no other answer.
func TestSizesAreNew(t *testing.T) {
	kept := pad.Sizes()
	for _, value := range []int{0, -1, 7, 1 << 20} {
		l := pad.Sizes()
		room := l[:cap(l)]
		for i := range room {
			room[i] = value
		}
		_ = append(l[:0], value, value, value, value, value)
		if !slices.Equal(kept, widths()) || !slices.Equal(pad.Sizes(), widths()) {
			t.Fatalf("%v, %v, behind a change of another answer", kept, pad.Sizes())
		}
		for b, size := range widths() {
			if pad.Size(b) != size || pad.Bucket(size-4) != b {
				t.Fatalf("bucket %d: size %d, behind a change of an answer", b, pad.Size(b))
			}
		}
		if s, err := pad.Pad("ab"); s != padded("ab") || err != api.OK {
			t.Fatalf("Pad: %q, %v, behind a change of an answer", s, err)
		}
		if s, err := pad.Strip(padded("ab")); s != "ab" || err != api.OK {
			t.Fatalf("Strip: %q, %v, behind a change of an answer", s, err)
		}
	}
}

// P5.3: the strings that are answered have bytes of their own.
func TestStringsAreNew(t *testing.T) {
	for _, n := range edges() {
		for _, text := range texts(n) {
			// Of one byte alone the language itself keeps one string for all.
			if n == 1 {
				continue
			}
			s := strings.Clone(text)
			p, _ := pad.Pad(s)
			again, _ := pad.Pad(s)
			x, _ := pad.Strip(p)
			y, _ := pad.Strip(p)
			for _, c := range [][2]string{{s, p}, {s, again}, {p, again}, {x, p}, {x, s}, {x, y}, {y, p}} {
				if shares(c[0], c[1]) {
					t.Fatalf("of %d bytes two strings share memory", n)
				}
			}
		}
	}
}

// P5.4: what was padded is stripped as it was, at each length.
func TestToAndFro(t *testing.T) {
	for n := range longest + 1 {
		for _, s := range texts(n) {
			p, err := pad.Pad(s)
			if err != api.OK {
				t.Fatalf("Pad of %d bytes: %v", n, err)
			}
			if x, err := pad.Strip(p); x != s || err != api.OK {
				t.Fatalf("%d bytes %.20q came back as %d bytes %.20q, %v", n, s, len(x), x, err)
			}
		}
	}
}

// P5.4: what was padded can be padded again, where there is a wider bucket, and comes back.
func TestTwice(t *testing.T) {
	s := "ab"
	for b, size := range widths() {
		p, err := pad.Pad(s)
		if err != api.OK || len(p) != size {
			t.Fatalf("bucket %d: %d bytes, %v", b, len(p), err)
		}
		if x, err := pad.Strip(p); x != s || err != api.OK {
			t.Fatalf("bucket %d: %d bytes, %v", b, len(x), err)
		}
		s = p
	}
	if p, err := pad.Pad(s); p != "" || err != api.ErrRange {
		t.Errorf("behind the last bucket: %d bytes, %v", len(p), err)
	}
}

// P5.4: the length tells the bucket, and nothing else: of one bucket all are alike long, of two none.
func TestLengthTellsBucket(t *testing.T) {
	lengths := map[int]int{}
	for n := range longest + 1 {
		for _, s := range texts(n) {
			p, _ := pad.Pad(s)
			b := pad.Bucket(n)
			if known, is := lengths[b]; is && known != len(p) {
				t.Fatalf("bucket %d has the lengths %d and %d", b, known, len(p))
			}
			lengths[b] = len(p)
			if pad.Bucket(len(p)-4) != b || pad.Size(b) != len(p) {
				t.Fatalf("%d bytes: the length %d does not tell the bucket %d", n, len(p), b)
			}
		}
	}
	seen := map[int]int{}
	for _, size := range lengths {
		seen[size]++
	}
	if len(lengths) != 4 || len(seen) != 4 {
		t.Errorf("%d buckets with %d lengths", len(lengths), len(seen))
	}
}

// P5.4: of two strings that differ the padded ones differ.
func TestPaddedApart(t *testing.T) {
	from := map[string]string{}
	for n := range 330 {
		for _, s := range texts(n) {
			p, _ := pad.Pad(s)
			if other, is := from[p]; is && other != s {
				t.Fatalf("%.20q and %.20q are padded alike", other, s)
			}
			from[p] = s
		}
	}
}

// FuzzStrip holds Strip, and Pad, against the other way, at any bytes, and at those bytes in a bucket.
func FuzzStrip(f *testing.F) {
	f.Add("", 0)
	f.Add("ab", 2)
	f.Add(padded("ab"), 80)
	f.Add(padded(strings.Repeat("z", 77)), 77)
	f.Add("\xff\xff\xff\xff", 320)
	f.Fuzz(func(t *testing.T, s string, n int) {
		strip(t, s)
		s = s[:min(len(s), longest)]
		p, err := pad.Pad(s)
		if p != padded(s) || err != api.OK {
			t.Errorf("Pad of %q: %q, %v", s, p, err)
		}
		strip(t, p)
		for _, size := range widths() {
			if len(s) <= size-4 {
				strip(t, number(n)+s+zeroes(size-4-len(s)))
			}
		}
		if pad.Bucket(n) != bucket(n) {
			t.Errorf("Bucket(%d) = %d", n, pad.Bucket(n))
		}
	})
}
