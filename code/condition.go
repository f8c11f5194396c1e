package code

// Comparison is one of the ways to hold two numbers against each other. The opposite of each stands beside it.
type Comparison int

const (
	Less Comparison = iota
	AtLeast
	Greater
	AtMost
	Equal
	Unequal
)

// Opposite holds where the comparison does not.
func (c Comparison) Opposite() Comparison { return c ^ 1 }

// Holds tells whether the comparison is so.
func (c Comparison) Holds(a, b int64) bool {
	switch c {
	case Less:
		return a < b
	case AtLeast:
		return a >= b
	case Greater:
		return a > b
	case AtMost:
		return a <= b
	case Equal:
		return a == b
	}
	return a != b
}

// What a side of a condition is.
const (
	IsNumber   = iota
	IsNegative // the number turned round
	IsParam    // the parameter of that number
)

// Condition is what a function wants of its arguments.
type Condition struct {
	Comparison  Comparison
	Left, Right Side
}

// Side is one side of a condition.
type Side struct{ Is, Number int }

func (s Side) of(args []int64) int64 {
	switch s.Is {
	case IsParam:
		return args[s.Number]
	case IsNegative:
		return -int64(s.Number)
	}
	return int64(s.Number)
}

// Takes tells whether all conditions of the function are so for these arguments, of which there are as many as it has parameters.
func (f *Function) Takes(args []int64) bool {
	for _, where := range f.Wheres {
		if !where.Comparison.Holds(where.Left.of(args), where.Right.of(args)) {
			return false
		}
	}
	return true
}
