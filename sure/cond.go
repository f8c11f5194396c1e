package sure

import (
	"math"

	"surefoot/api"
	"surefoot/ranges"
	"surefoot/tree"
	"surefoot/words"
)

// side is one side of a comparison.
type side struct {
	is    ranges.Range
	which int // the variable that it is by itself, or api.None
}

// cond goes on at the place where the condition holds, and gives the new one where it does not.
func (l *looker) cond(at place, cond tree.Cond) place {
	switch c := cond.(type) {
	case *tree.Compare:
		return l.compare(at, c)
	case *tree.Logic:
		return l.logic(at, c)
	}
	return l.fork(at)
}

func (l *looker) logic(at place, c *tree.Logic) place {
	not := l.cond(at, c.Left)
	if c.Op == words.And {
		l.join(not, l.cond(at, c.Right))
		return not
	}
	neither := l.cond(not, c.Right)
	l.join(at, not)
	return neither
}

func (l *looker) compare(at place, c *tree.Compare) place {
	a, b := l.sides(at, c)
	not := l.fork(at)
	l.hold(at, c.Op, a, b)
	l.hold(not, opposite(c.Op), a, b)
	return not
}

func (l *looker) sides(at place, c *tree.Compare) (a, b side) {
	v := l.view(at)
	return v.side(c.Left), v.side(c.Right)
}

func opposite(op words.Kind) words.Kind {
	switch op {
	case words.Less:
		return words.AtLeast
	case words.AtMost:
		return words.Greater
	case words.Greater:
		return words.AtMost
	case words.AtLeast:
		return words.Less
	case words.Equal:
		return words.Unequal
	}
	return words.Equal
}

// hold cuts what is known at a place to where a comparison holds, whose sides were worked there.
func (l *looker) hold(at place, op words.Kind, a, b side) {
	switch op {
	case words.Less:
		l.holdBelow(at, a, b, 1)
	case words.AtMost:
		l.holdBelow(at, a, b, 0)
	case words.Greater:
		l.holdBelow(at, b, a, 1)
	case words.AtLeast:
		l.holdBelow(at, b, a, 0)
	case words.Equal:
		l.cut(at, a, b.is)
		l.cut(at, b, a.is)
	case words.Unequal:
		l.holdUnequal(at, a, b)
	}
}

// holdBelow has a at least so far below b.
func (l *looker) holdBelow(at place, a, b side, far int64) {
	if b.is.Greatest < math.MinInt64+far || a.is.Least > math.MaxInt64-far {
		l.kill(at)
		return
	}
	l.cut(at, a, ranges.UpTo(b.is.Greatest-far))
	l.cut(at, b, ranges.From(a.is.Least+far))
}

func (l *looker) holdUnequal(at place, a, b side) {
	if b.is.IsOne() {
		l.cut(at, a, a.is.Without(b.is.Least))
	}
	if a.is.IsOne() {
		l.cut(at, b, b.is.Without(a.is.Least))
	}
}

// cut leaves of a side, if it is a variable, what lies in the range too.
func (l *looker) cut(at place, s side, to ranges.Range) {
	now, alive := l.known[at]
	if !alive || s.which == api.None {
		return
	}
	now[s.which] = now[s.which].Cut(to)
	if now[s.which].IsEmpty() {
		l.kill(at)
	}
}

// isSo tells whether a comparison is so for all that its sides may be.
func isSo(op words.Kind, a, b ranges.Range) bool {
	switch op {
	case words.Less:
		return a.Greatest < b.Least
	case words.AtMost:
		return a.Greatest <= b.Least
	case words.Greater:
		return b.Greatest < a.Least
	case words.AtLeast:
		return b.Greatest <= a.Least
	case words.Equal:
		return a.IsOne() && a == b
	}
	return a.Cut(b).IsEmpty()
}
