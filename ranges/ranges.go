// Package ranges has what a number may be, from the least to the greatest, and what is worked from such.
package ranges

import "math"

// Range is from the least to the greatest number that something may be. Of an empty one the least is above the greatest.
type Range struct{ Least, Greatest int64 }

// All is each number there is.
func All() Range { return Range{math.MinInt64, math.MaxInt64} }

// One is this number alone.
func One(n int64) Range { return Range{n, n} }

// UpTo is each number that is not above this one.
func UpTo(n int64) Range { return Range{math.MinInt64, n} }

// From is each number that is not below this one.
func From(n int64) Range { return Range{n, math.MaxInt64} }

func none() Range { return Range{math.MaxInt64, math.MinInt64} }

// IsEmpty tells whether there is no number in it.
func (r Range) IsEmpty() bool { return r.Least > r.Greatest }

// IsOne tells whether there is just one number in it.
func (r Range) IsOne() bool { return r.Least == r.Greatest }

// Has tells whether this number is in it.
func (r Range) Has(n int64) bool { return r.Least <= n && n <= r.Greatest }

// Meet goes from the least to the greatest of both.
func (r Range) Meet(other Range) Range {
	return Range{min(r.Least, other.Least), max(r.Greatest, other.Greatest)}
}

// Cut is what both have.
func (r Range) Cut(to Range) Range {
	return Range{max(r.Least, to.Least), min(r.Greatest, to.Greatest)}
}

// Without is what is left if this number is no more in it: a hole stays unseen.
func (r Range) Without(n int64) Range {
	switch {
	case r == One(n):
		return none()
	case r.Least == n:
		r.Least++
	case r.Greatest == n:
		r.Greatest--
	}
	return r
}

// Widen lets go of each end that the other range goes beyond.
func (r Range) Widen(other Range) Range {
	if other.Least < r.Least {
		r.Least = math.MinInt64
	}
	if other.Greatest > r.Greatest {
		r.Greatest = math.MaxInt64
	}
	return r
}
