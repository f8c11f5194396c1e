package ranges

import (
	"math"
	"math/big"
	"testing"
)

const (
	least = math.MinInt64
	most  = math.MaxInt64
)

// some gives ranges of small numbers, and ones with ends where numbers do not fit any more.
func some() []Range {
	ends := []int64{least, least + 1, least / 2, -4294967296, -3037000500, -7, -2, -1, 0, 1, 2, 7, 3037000499, 3037000500, 4294967296, most/2 + 1, most - 1, most}
	var all []Range
	for i, a := range ends {
		for _, b := range ends[i:] {
			all = append(all, Range{a, b})
		}
	}
	return all
}

// within gives numbers of a range, its ends among them.
func within(r Range) []int64 {
	numbers := []int64{r.Least, r.Greatest}
	for _, n := range []int64{least, least + 1, -8, -3, -1, 0, 1, 3, 8, most - 1, most, r.Least + 1, r.Greatest - 1} {
		if r.Has(n) {
			numbers = append(numbers, n)
		}
	}
	return numbers
}

func fits(n *big.Int) bool { return n.IsInt64() }

// bigEnds goes from the least to the greatest of what the ends give, worked with numbers of any length.
func bigEnds(a, b Range, work func(z, x, y *big.Int) *big.Int) Range {
	var low, high *big.Int
	for _, x := range []int64{a.Least, a.Greatest} {
		for _, y := range []int64{b.Least, b.Greatest} {
			n := work(new(big.Int), big.NewInt(x), big.NewInt(y))
			if low == nil || n.Cmp(low) < 0 {
				low = n
			}
			if high == nil || n.Cmp(high) > 0 {
				high = n
			}
		}
	}
	if !fits(low) || !fits(high) {
		return All()
	}
	return Range{low.Int64(), high.Int64()}
}

func TestOfEnds(t *testing.T) {
	for _, a := range some() {
		for _, b := range some() {
			if got, want := a.Plus(b), bigEnds(a, b, (*big.Int).Add); got != want {
				t.Errorf("P10: %v + %v: %v, want %v", a, b, got, want)
			}
			if got, want := a.Minus(b), bigEnds(a, b, (*big.Int).Sub); got != want {
				t.Errorf("P10: %v - %v: %v, want %v", a, b, got, want)
			}
			if got, want := a.Times(b), bigEnds(a, b, (*big.Int).Mul); got != want {
				t.Errorf("P10: %v * %v: %v, want %v", a, b, got, want)
			}
			want := All()
			if a.Least > least && (b.Least > 0 || b.Greatest < 0) {
				want = bigEnds(a, b, (*big.Int).Quo)
			}
			if got := a.Over(b); got != want {
				t.Errorf("P10: %v / %v: %v, want %v", a, b, got, want)
			}
		}
	}
}

// TestNothingIsLeftOut works with numbers of the ranges as a run does.
func TestNothingIsLeftOut(t *testing.T) {
	for _, a := range some() {
		for _, b := range some() {
			sum, difference, product, quotient, rest := a.Plus(b), a.Minus(b), a.Times(b), a.Over(b), a.Rest(b)
			for _, x := range within(a) {
				if !a.Negate().Has(-x) {
					t.Errorf("P11: - %v: %v, but -(%d)", a, a.Negate(), x)
				}
				for _, y := range within(b) {
					if !sum.Has(x+y) || !difference.Has(x-y) || !product.Has(x*y) || y != 0 && (!quotient.Has(x/y) || !rest.Has(x%y)) {
						t.Errorf("P11: %v and %v: %v %v %v %v %v, but %d and %d", a, b, sum, difference, product, quotient, rest, x, y)
					}
				}
			}
		}
	}
}

func TestNegate(t *testing.T) {
	for _, c := range []struct{ r, want Range }{
		{One(0), One(0)}, {One(5), One(-5)}, {Range{-3, 8}, Range{-8, 3}}, {Range{1, most}, Range{-most, -1}}, {Range{-most, most}, Range{-most, most}},
		{All(), All()}, {One(least), All()}, {Range{least, -5}, All()}, {Range{least + 1, -5}, Range{5, most}},
	} {
		if got := c.r.Negate(); got != c.want {
			t.Errorf("P10: - %v: %v, want %v", c.r, got, c.want)
		}
	}
}

func TestRest(t *testing.T) {
	for _, c := range []struct{ a, b, want Range }{
		{Range{0, 100}, One(10), Range{0, 9}}, {Range{0, 3}, One(10), Range{0, 9}}, {Range{5, 6}, One(10), Range{0, 9}}, {Range{0, 100}, One(-10), Range{0, 9}},
		{Range{-100, 0}, One(10), Range{-9, 0}}, {Range{-100, -50}, One(-10), Range{-9, 0}}, {Range{-1, 1}, One(10), Range{-9, 9}}, {All(), One(10), Range{-9, 9}},
		{One(0), One(10), One(0)}, {All(), One(1), One(0)}, {All(), One(-1), One(0)}, {One(least), One(-1), One(0)}, {All(), One(2), Range{-1, 1}},
		{All(), One(most), Range{1 - most, most - 1}}, {All(), One(least + 1), Range{1 - most, most - 1}}, {Range{0, 5}, One(least + 1), Range{0, most - 1}},
		{Range{0, 5}, One(0), All()}, {Range{0, 5}, One(least), All()}, {Range{0, 5}, Range{2, 3}, All()}, {Range{0, 5}, Range{-2, 2}, All()}, {One(7), All(), All()},
	} {
		if got := c.a.Rest(c.b); got != c.want {
			t.Errorf("P10: %v %% %v: %v, want %v", c.a, c.b, got, c.want)
		}
	}
}

func TestMeetAndCut(t *testing.T) {
	for _, c := range []struct{ a, b, meet, cut Range }{
		{Range{1, 5}, Range{3, 9}, Range{1, 9}, Range{3, 5}}, {Range{1, 9}, Range{3, 5}, Range{1, 9}, Range{3, 5}}, {One(4), One(4), One(4), One(4)},
		{All(), One(4), All(), One(4)}, {Range{1, 4}, Range{4, 6}, Range{1, 6}, One(4)}, {UpTo(3), From(-3), All(), Range{-3, 3}}, {UpTo(most), From(least), All(), All()},
	} {
		if c.a.Meet(c.b) != c.meet || c.b.Meet(c.a) != c.meet {
			t.Errorf("P10: %v meets %v: %v and %v, want %v", c.a, c.b, c.a.Meet(c.b), c.b.Meet(c.a), c.meet)
		}
		if c.a.Cut(c.b) != c.cut || c.b.Cut(c.a) != c.cut {
			t.Errorf("P10: %v cut to %v: %v and %v, want %v", c.a, c.b, c.a.Cut(c.b), c.b.Cut(c.a), c.cut)
		}
	}
	for _, c := range [][2]Range{{One(1), One(2)}, {Range{1, 4}, Range{5, 6}}, {UpTo(-1), From(0)}, {One(least), One(most)}} {
		if !c[0].Cut(c[1]).IsEmpty() || !c[1].Cut(c[0]).IsEmpty() || c[0].IsEmpty() || c[1].IsEmpty() {
			t.Errorf("P10: %v and %v have something in common", c[0], c[1])
		}
	}
}

func TestWithout(t *testing.T) {
	for _, c := range []struct {
		r    Range
		n    int64
		want Range
	}{
		{Range{1, 5}, 1, Range{2, 5}}, {Range{1, 5}, 5, Range{1, 4}}, {Range{1, 5}, 3, Range{1, 5}}, {Range{1, 5}, 0, Range{1, 5}}, {Range{1, 5}, 6, Range{1, 5}},
		{Range{1, 2}, 1, One(2)}, {Range{1, 2}, 2, One(1)}, {One(3), 4, One(3)}, {All(), least, From(least + 1)}, {All(), most, UpTo(most - 1)}, {All(), 0, All()},
	} {
		if got := c.r.Without(c.n); got != c.want {
			t.Errorf("P10: %v without %d: %v, want %v", c.r, c.n, got, c.want)
		}
	}
	for _, n := range []int64{least, -1, 0, 1, most} {
		if got := One(n).Without(n); !got.IsEmpty() {
			t.Errorf("P10: %d without itself: %v", n, got)
		}
	}
}

func TestWiden(t *testing.T) {
	for _, c := range []struct{ r, other, want Range }{
		{Range{1, 5}, Range{1, 5}, Range{1, 5}}, {Range{1, 5}, Range{2, 4}, Range{1, 5}}, {Range{1, 5}, Range{1, 6}, From(1)}, {Range{1, 5}, Range{0, 5}, UpTo(5)},
		{Range{1, 5}, Range{0, 6}, All()}, {Range{1, 5}, One(9), From(1)}, {Range{1, 5}, One(-9), UpTo(5)}, {All(), All(), All()}, {From(0), One(-1), All()},
	} {
		if got := c.r.Widen(c.other); got != c.want {
			t.Errorf("P10: %v widened by %v: %v, want %v", c.r, c.other, got, c.want)
		}
	}
}
