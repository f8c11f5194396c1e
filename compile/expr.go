package compile

import (
	"surefoot/code"
	"surefoot/tree"
	"surefoot/words"
)

// jumpsIf puts in a condition, and gives the jumps that are taken if it holds, or if it does not. Else the run goes on behind it.
func (t *translator) jumpsIf(cond tree.Cond, holds bool) []int {
	switch c := cond.(type) {
	case *tree.Compare:
		return []int{t.compare(c, holds)}
	case *tree.Logic:
		return t.logic(c, holds)
	}
	return nil
}

func (t *translator) compare(c *tree.Compare, holds bool) int {
	is := comparison(c.Op)
	if !holds {
		is = is.Opposite()
	}
	t.expr(c.Left)
	t.expr(c.Right)
	return t.put(code.JumpIf, later, int(is))
}

// logic has the left side jump to the same place as the right one if it decides so, and else, if it decides, to behind it.
func (t *translator) logic(c *tree.Logic, holds bool) []int {
	decides := c.Op == words.Or
	left := t.jumpsIf(c.Left, decides)
	right := t.jumpsIf(c.Right, holds)
	if holds == decides {
		return append(left, right...)
	}
	t.land(left...)
	return right
}

func comparison(op words.Kind) code.Comparison {
	switch op {
	case words.Less:
		return code.Less
	case words.AtMost:
		return code.AtMost
	case words.Greater:
		return code.Greater
	case words.AtLeast:
		return code.AtLeast
	case words.Equal:
		return code.Equal
	}
	return code.Unequal
}

func (t *translator) expr(expr tree.Expr) {
	switch e := expr.(type) {
	case *tree.Number:
		t.put(code.Number, int(e.Value))
	case *tree.Variable:
		t.put(code.Variable, e.Name.Which)
	case *tree.Element:
		t.element(e)
	case *tree.Call:
		t.call(e)
	case *tree.Bracket:
		t.expr(e.Inner)
	case *tree.Negate:
		t.expr(e.Inner)
		t.put(code.Negate)
	case *tree.Binary:
		t.binary(e)
	}
}

func (t *translator) element(e *tree.Element) {
	t.expr(e.Index)
	if t.looksAt(e.Site) {
		t.put(code.LookLoad, e.Array.Which, e.Site)
	}
	t.put(code.Load, e.Array.Which)
}

func (t *translator) call(c *tree.Call) {
	for _, arg := range c.Args {
		t.expr(arg)
	}
	if t.looksAt(c.Site) {
		t.put(code.LookCall, c.Func.Which, c.Site)
	}
	t.put(code.Call, c.Func.Which)
}

func (t *translator) binary(b *tree.Binary) {
	t.expr(b.Left)
	t.expr(b.Right)
	if t.looksAt(b.Site) {
		t.put(code.LookDivide, b.Site)
	}
	t.put(operator(b.Op))
}

func operator(op words.Kind) code.Op {
	switch op {
	case words.Plus:
		return code.Plus
	case words.Minus:
		return code.Minus
	case words.Times:
		return code.Times
	case words.Divide:
		return code.Divide
	}
	return code.Rest
}
