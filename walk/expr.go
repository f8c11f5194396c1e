package walk

import (
	"surefoot/tree"
	"surefoot/words"
)

func (f *frame) cond(cond tree.Cond) bool {
	switch c := cond.(type) {
	case *tree.Compare:
		return f.compare(c)
	case *tree.Logic:
		if c.Op == words.And {
			return f.cond(c.Left) && f.cond(c.Right)
		}
		return f.cond(c.Left) || f.cond(c.Right)
	}
	return false
}

func (f *frame) compare(c *tree.Compare) bool {
	a := f.expr(c.Left)
	b := f.expr(c.Right)
	switch c.Op {
	case words.Less:
		return a < b
	case words.AtMost:
		return a <= b
	case words.Greater:
		return a > b
	case words.AtLeast:
		return a >= b
	case words.Equal:
		return a == b
	}
	return a != b
}

func (f *frame) expr(expr tree.Expr) int64 {
	switch e := expr.(type) {
	case *tree.Number:
		return e.Value
	case *tree.Variable:
		return f.vars[e.Name.Which]
	case *tree.Element:
		return f.element(e)
	case *tree.Call:
		return f.call(e)
	case *tree.Bracket:
		return f.expr(e.Inner)
	case *tree.Negate:
		return -f.expr(e.Inner)
	case *tree.Binary:
		return f.binary(e)
	}
	return 0
}

func (f *frame) element(e *tree.Element) int64 {
	index := f.expr(e.Index)
	if !f.within(e.Array, index, e.Site) {
		return 0
	}
	return f.arrays[e.Array.Which][index]
}

func (f *frame) call(c *tree.Call) int64 {
	callee := frame{run: f.run}
	for i, arg := range c.Args {
		callee.vars[i] = f.expr(arg)
	}
	function := f.program.Funcs[c.Func.Which]
	if !callee.takes(function) {
		f.trap(c.Site)
	}
	return callee.enter(function)
}

func (f *frame) binary(b *tree.Binary) int64 {
	left := f.expr(b.Left)
	right := f.expr(b.Right)
	switch b.Op {
	case words.Plus:
		return left + right
	case words.Minus:
		return left - right
	case words.Times:
		return left * right
	}
	if right == 0 {
		f.trap(b.Site)
		return 0
	}
	if b.Op == words.Divide {
		return left / right
	}
	return left % right
}
