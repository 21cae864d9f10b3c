package clock_test

import (
	"math"
	"testing"

	"carpetbag/api"
	"carpetbag/clock"
)

const most = api.MaxCount

// same tells whether two complex numbers have the same bits: == takes 0 and -0 for the same.
func same(c, d complex128) bool {
	return math.Float64bits(real(c)) == math.Float64bits(real(d)) && math.Float64bits(imag(c)) == math.Float64bits(imag(d))
}

// counts are numbers, and what a count that is clamped comes to.
func counts() []struct{ n, want int } {
	return []struct{ n, want int }{
		{0, 0},
		{1, 1},
		{2, 2},
		{77, 77},
		{most - 1, most - 1},
		{most, most},
		{most + 1, most},
		{1 << 31, most},
		{1 << 32, most},
		{1<<53 + 1, most},
		{api.MaxInt, most},
		{-1, 0},
		{-most, 0},
		{-1 << 32, 0},
		{api.MinInt, 0},
	}
}

// parts are parts of complex numbers, and the counts that they tell.
func parts() []struct {
	part float64
	want int
} {
	return []struct {
		part float64
		want int
	}{
		{0, 0},
		{math.Copysign(0, -1), 0},
		{math.SmallestNonzeroFloat64, 0},
		{0.5, 0},
		{math.Nextafter(1, 0), 0},
		{1, 1},
		{1.5, 1},
		{2.5, 2},
		{2.9, 2},
		{3, 3},
		{most - 1, most - 1},
		{most - 0.5, most - 1},
		{math.Nextafter(most, 0), most - 1},
		{most, most},
		{most + 0.5, most},
		{most + 1, most},
		{1 << 31, most},
		{1 << 32, most},
		{1<<32 + 5, most},
		{math.MaxInt64, most},
		{1 << 64, most},
		{math.MaxFloat64, most},
		{math.Inf(1), most},
		{-math.SmallestNonzeroFloat64, 0},
		{-0.5, 0},
		{-1, 0},
		{-1.5, 0},
		{-most, 0},
		{-1 << 63, 0},
		{-1 << 64, 0},
		{-math.MaxFloat64, 0},
		{math.Inf(-1), 0},
		{math.NaN(), 0},
		{math.Copysign(math.NaN(), -1), 0},
		{math.Float64frombits(0x7ff0000000000001), 0},
	}
}

// authors are numbers, and whether author 1 is meant.
func authors() []struct {
	author int
	second bool
} {
	return []struct {
		author int
		second bool
	}{
		{0, false},
		{1, true},
		{2, false},
		{3, true},
		{7, true},
		{8, false},
		{-1, true},
		{-2, false},
		{-3, true},
		{-8, false},
		{api.MaxInt, true},
		{api.MaxInt - 1, false},
		{api.MinInt, false},
		{api.MinInt + 1, true},
	}
}

// P2.1: a pair is right if both counts are from 0 to MaxCount.
func TestRight(t *testing.T) {
	for _, l := range counts() {
		for _, r := range counts() {
			p := api.Pair{Left: l.n, Right: r.n}
			want := l.n >= 0 && l.n <= 1<<30 && r.n >= 0 && r.n <= 1<<30
			if clock.Right(p) != want {
				t.Errorf("Right(%v) is not %v", p, want)
			}
		}
	}
}

// P2.1: the clock of a pair has its counts as the parts, each clamped.
func TestOf(t *testing.T) {
	for _, l := range counts() {
		for _, r := range counts() {
			p := api.Pair{Left: l.n, Right: r.n}
			want := complex(float64(l.want), float64(r.want))
			if got := clock.Of(p); !same(got, want) {
				t.Errorf("Of(%v) = %v, want %v", p, got, want)
			}
		}
	}
}

// P2.1: of a complex number each part is rounded towards 0, and clamped; what is no number is 0.
func TestPair(t *testing.T) {
	for _, l := range parts() {
		for _, r := range parts() {
			want := api.Pair{Left: l.want, Right: r.want}
			if got := clock.Pair(complex(l.part, r.part)); got != want {
				t.Errorf("Pair(%v, %v) = %v, want %v", l.part, r.part, got, want)
			}
		}
	}
}

// P2.1: a right pair is the pair of its clock, and every pair of a complex number is right.
func TestPairOfClock(t *testing.T) {
	for _, l := range counts() {
		for _, r := range counts() {
			p := api.Pair{Left: l.n, Right: r.n}
			if got := clock.Pair(clock.Of(p)); clock.Right(p) != (got == p) || !clock.Right(got) {
				t.Errorf("the pair of the clock of %v is %v", p, got)
			}
		}
	}
	for _, l := range parts() {
		for _, r := range parts() {
			if p := clock.Pair(complex(l.part, r.part)); !clock.Right(p) {
				t.Errorf("Pair(%v, %v) = %v is not right", l.part, r.part, p)
			}
		}
	}
}

// P2.2: a tick is one more of one author, MaxCount at most, of the pair of whatever number.
func TestTick(t *testing.T) {
	for _, l := range parts() {
		for _, r := range parts() {
			for _, a := range authors() {
				left, right := l.want, r.want
				if a.second {
					right = min(right+1, 1<<30)
				} else {
					left = min(left+1, 1<<30)
				}
				want := complex(float64(left), float64(right))
				if got := clock.Tick(complex(l.part, r.part), a.author); !same(got, want) {
					t.Errorf("Tick(%v, %v of author %d) = %v, want %v", l.part, r.part, a.author, got, want)
				}
			}
		}
	}
}

// P2.2: an author's count is that of the pair.
func TestMine(t *testing.T) {
	for _, l := range parts() {
		for _, r := range parts() {
			for _, a := range authors() {
				want := l.want
				if a.second {
					want = r.want
				}
				if got := clock.Mine(complex(l.part, r.part), a.author); got != want {
					t.Errorf("Mine(%v, %v of author %d) = %d, want %d", l.part, r.part, a.author, got, want)
				}
			}
		}
	}
}

// some are complex numbers whose pairs lie every way to each other, some of them no clocks, with those pairs.
func some() ([]complex128, []api.Pair) {
	var all []complex128
	var pairs []api.Pair
	add := func(left, right float64, l, r int) {
		all = append(all, complex(left, right))
		pairs = append(pairs, api.Pair{Left: l, Right: r})
	}
	for l := range 4 {
		for r := range 4 {
			add(float64(l), float64(r), l, r)
		}
	}
	add(1.2, 2.9, 1, 2)
	add(1.9, 2.1, 1, 2)
	add(-7, 3.5, 0, 3)
	add(math.NaN(), 2, 0, 2)
	add(2, math.NaN(), 2, 0)
	add(math.Inf(1), math.Inf(-1), most, 0)
	add(math.Inf(-1), math.Inf(1), 0, most)
	add(most, most, most, most)
	add(most-1, most, most-1, most)
	add(most, most-1, most, most-1)
	add(1e300, most+1, most, most)
	return all, pairs
}

// P2.2: a join has the greater one of each count.
func TestJoin(t *testing.T) {
	all, pairs := some()
	for i, c := range all {
		for j, d := range all {
			left, right := pairs[i].Left, pairs[i].Right
			if pairs[j].Left > left {
				left = pairs[j].Left
			}
			if pairs[j].Right > right {
				right = pairs[j].Right
			}
			want := complex(float64(left), float64(right))
			if got := clock.Join(c, d); !same(got, want) {
				t.Errorf("Join(%v, %v) = %v, want %v", c, d, got, want)
			}
		}
	}
}

// P2.3: the numbers that are told, and what is told of pairs that lie each way to each other.
func TestOrderOfSome(t *testing.T) {
	for _, c := range []struct {
		c, d complex128
		want int
	}{
		{0, 0, 0},
		{complex(3, 1), complex(3, 1), 0},
		{complex(3, 1), complex(3, 2), 1},
		{complex(2, 1), complex(3, 1), 1},
		{complex(2, 1), complex(3, 2), 1},
		{complex(3, 2), complex(3, 1), 2},
		{complex(3, 1), complex(2, 1), 2},
		{complex(3, 2), complex(2, 1), 2},
		{complex(3, 1), complex(2, 4), 3},
		{complex(2, 4), complex(3, 1), 3},
		{complex(1.5, 0.9), complex(1.2, 0), 0},
		{complex(-5, -9), 0, 0},
		{complex(most+1, most), complex(math.Inf(1), 1e40), 0},
		{complex(math.NaN(), math.NaN()), 0, 0},
		{complex(math.NaN(), 1), complex(0, math.NaN()), 2},
		{complex(math.NaN(), 1), complex(1, math.NaN()), 3},
		{complex(most, 0), complex(0, most), 3},
		{complex(most-1, most), complex(most, most), 1},
		{complex(1.9, 0), complex(2, 0), 1},
	} {
		if got := clock.Order(c.c, c.d); got != c.want {
			t.Errorf("Order(%v, %v) = %d, want %d", c.c, c.d, got, c.want)
		}
	}
}

// P2.3: what is told of every two hangs on the counts alone.
func TestOrder(t *testing.T) {
	all, pairs := some()
	for i, c := range all {
		for j, d := range all {
			greater := pairs[i].Left > pairs[j].Left || pairs[i].Right > pairs[j].Right
			less := pairs[i].Left < pairs[j].Left || pairs[i].Right < pairs[j].Right
			want := api.Alike
			switch {
			case greater && less:
				want = api.Apart
			case greater:
				want = api.After
			case less:
				want = api.Before
			}
			if got := clock.Order(c, d); got != want {
				t.Errorf("Order(%v, %v) = %d, want %d", c, d, got, want)
			}
		}
	}
}

// within tells whether c is Before d, or Alike.
func within(c, d complex128) bool {
	o := clock.Order(c, d)
	return o == api.Before || o == api.Alike
}

// P2.4: to be Before, or Alike, is an order: of itself, of two, of three.
func TestIsAnOrder(t *testing.T) {
	all, pairs := some()
	for i, c := range all {
		if !within(c, c) {
			t.Errorf("%v is not within itself", c)
		}
		for j, d := range all {
			if within(c, d) && within(d, c) && pairs[i] != pairs[j] {
				t.Errorf("%v and %v are within each other", c, d)
			}
			if (clock.Order(c, d) == api.Before) != (clock.Order(d, c) == api.After) {
				t.Errorf("%v and %v: Before one way, not After the other way", c, d)
			}
			for _, e := range all {
				if within(c, d) && within(d, e) && !within(c, e) {
					t.Errorf("%v within %v within %v, but not the first within the last", c, d, e)
				}
			}
		}
	}
}

// P2.4: a join is the least that both are within, and of three it is the same in any order.
func TestLeastJoin(t *testing.T) {
	all, _ := some()
	for _, c := range all {
		if !same(clock.Join(c, c), clock.Of(clock.Pair(c))) {
			t.Errorf("%v joined with itself is another one", c)
		}
		for _, d := range all {
			j := clock.Join(c, d)
			if !within(c, j) || !within(d, j) {
				t.Errorf("%v, %v are not within their join %v", c, d, j)
			}
			if !same(j, clock.Join(d, c)) {
				t.Errorf("the join of %v, %v hangs on their order", c, d)
			}
			for _, e := range all {
				if within(c, e) && within(d, e) && !within(j, e) {
					t.Errorf("%v, %v are within %v, their join %v is not", c, d, e, j)
				}
				if !same(clock.Join(j, e), clock.Join(c, clock.Join(d, e))) {
					t.Errorf("the join of %v, %v, %v hangs on which are joined first", c, d, e)
				}
			}
		}
	}
}

// P2.4: who ticks is After, but at the limit, where the count stays; of two who tick apart none is Before.
func TestTicksAreAfter(t *testing.T) {
	all, pairs := some()
	for i, c := range all {
		for _, a := range authors() {
			mine := pairs[i].Left
			if a.second {
				mine = pairs[i].Right
			}
			want := api.After
			if mine == 1<<30 {
				want = api.Alike
			}
			if got := clock.Order(clock.Tick(c, a.author), c); got != want {
				t.Errorf("the tick of author %d to %v: %d", a.author, c, got)
			}
		}
		if pairs[i].Left < 1<<30 && pairs[i].Right < 1<<30 && clock.Order(clock.Tick(c, 0), clock.Tick(c, 1)) != api.Apart {
			t.Errorf("two ticks from %v are not apart", c)
		}
	}
}

// FuzzClocks holds what follows of any numbers, clocks or not.
func FuzzClocks(f *testing.F) {
	f.Add(3.0, 1.0, 2.0, 4.0, 0)
	f.Add(math.NaN(), math.Inf(1), -1.5, 1e300, -1)
	f.Fuzz(func(t *testing.T, a, b, x, y float64, author int) {
		c, d := complex(a, b), complex(x, y)
		j := clock.Join(c, d)
		if !clock.Right(clock.Pair(c)) || !within(c, j) || !within(d, j) || !same(j, clock.Of(clock.Pair(j))) {
			t.Errorf("the join of %v, %v: %v", c, d, j)
		}
		k := clock.Tick(c, author)
		if !within(c, k) || clock.Mine(k, author) != min(clock.Mine(c, author)+1, most) || clock.Mine(k, author^1) != clock.Mine(c, author^1) {
			t.Errorf("the tick of %d to %v: %v", author, c, k)
		}
	})
}
