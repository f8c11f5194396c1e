package sure

import (
	"surefoot/api"
	"surefoot/ranges"
	"surefoot/tree"
	"surefoot/words"
)

// view is what is known where an expression stands. In a dead place its variables are nobody's.
type view struct {
	*looker
	vars  *vars
	alive bool
}

func (l *looker) view(at place) view {
	now, alive := l.known[at]
	if !alive {
		now = &vars{}
	}
	return view{looker: l, vars: now, alive: alive}
}

// tell writes down of a site whether a run that comes to it is known not to trap.
func (v *view) tell(site int, isSafe bool) {
	v.sites[site].Sure = isSafe || !v.alive
}

// expr gives what an expression may be.
func (v *view) expr(expr tree.Expr) ranges.Range {
	switch e := expr.(type) {
	case *tree.Number:
		return ranges.One(e.Value)
	case *tree.Variable:
		return v.vars[e.Name.Which]
	case *tree.Element:
		v.index(e.Array, e.Index, e.Site)
	case *tree.Call:
		v.call(e)
	case *tree.Bracket:
		return v.expr(e.Inner)
	case *tree.Negate:
		return v.expr(e.Inner).Negate()
	case *tree.Binary:
		return v.binary(e)
	}
	return ranges.All()
}

func (v *view) index(array tree.Name, index tree.Expr, site int) {
	is := v.expr(index)
	length := int64(v.program.Arrays[array.Which].Length)
	v.tell(site, is.Least >= 0 && is.Greatest < length)
}

func (v *view) call(c *tree.Call) {
	callee := view{looker: v.looker, vars: &vars{}}
	for i, arg := range c.Args {
		callee.vars[i] = v.expr(arg)
	}
	if c.Site != api.None {
		v.tell(c.Site, callee.takes(v.program.Funcs[c.Func.Which]))
	}
}

// takes tells whether all conditions of a function are so, whatever its arguments are of what they may be.
func (v *view) takes(function *tree.Func) bool {
	for _, where := range function.Wheres {
		if !isSo(where.Op, v.expr(where.Left), v.expr(where.Right)) {
			return false
		}
	}
	return true
}

func (v *view) binary(b *tree.Binary) ranges.Range {
	left := v.expr(b.Left)
	right := v.expr(b.Right)
	switch b.Op {
	case words.Plus:
		return left.Plus(right)
	case words.Minus:
		return left.Minus(right)
	case words.Times:
		return left.Times(right)
	}
	v.tell(b.Site, !right.Has(0))
	if b.Op == words.Divide {
		return left.Over(right)
	}
	return left.Rest(right)
}

// side gives one side of a comparison. A variable in brackets is still one by itself.
func (v *view) side(expr tree.Expr) side {
	s := side{is: v.expr(expr), which: api.None}
	for {
		switch e := expr.(type) {
		case *tree.Bracket:
			expr = e.Inner
			continue
		case *tree.Variable:
			s.which = e.Name.Which
		}
		return s
	}
}
