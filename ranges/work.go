package ranges

import "math"

// Negate is what it may be when it is turned round.
func (r Range) Negate() Range {
	if r.Has(math.MinInt64) {
		return All()
	}
	return Range{-r.Greatest, -r.Least}
}

// Plus is what the sum may be.
func (r Range) Plus(other Range) Range { return ofEnds(r, other, plus) }

// Minus is what the difference may be.
func (r Range) Minus(other Range) Range { return ofEnds(r, other, minus) }

// Times is what the product may be.
func (r Range) Times(other Range) Range { return ofEnds(r, other, times) }

// Over is what the quotient may be.
func (r Range) Over(other Range) Range {
	if other.Has(0) || r.Has(math.MinInt64) {
		return All()
	}
	return ofEnds(r, other, over)
}

// Rest is what may be left of a division.
func (r Range) Rest(other Range) Range {
	by := other.Least
	if !other.IsOne() || by == 0 || by == math.MinInt64 {
		return All()
	}
	most := max(by, -by) - 1
	rest := One(0)
	if r.Least < 0 {
		rest.Least = -most
	}
	if r.Greatest > 0 {
		rest.Greatest = most
	}
	return rest
}

// ofEnds goes from the least to the greatest of what the ends give, if all of that fits.
func ofEnds(a, b Range, work func(x, y int64) (result int64, fits bool)) Range {
	all := none()
	for _, x := range [...]int64{a.Least, a.Greatest} {
		for _, y := range [...]int64{b.Least, b.Greatest} {
			result, fits := work(x, y)
			if !fits {
				return All()
			}
			all = all.Meet(One(result))
		}
	}
	return all
}

func plus(x, y int64) (int64, bool) {
	sum := x + y
	return sum, (sum >= x) == (y >= 0)
}

func minus(x, y int64) (int64, bool) {
	difference := x - y
	return difference, (difference <= x) == (y >= 0)
}

func times(x, y int64) (int64, bool) {
	product := x * y
	switch x {
	case 0:
		return 0, true
	case -1:
		// The least number gives itself here, and the division below would find nothing wrong with that.
		return product, y != math.MinInt64
	}
	return product, product/x == y
}

func over(x, y int64) (int64, bool) { return x / y, true }
