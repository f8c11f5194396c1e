// Package sites numbers the places where a run can trap.
package sites

import (
	"surefoot/api"
	"surefoot/tree"
	"surefoot/words"
)

// numberer goes through a program in the order of its text.
type numberer struct{ program *tree.Program }

// Number finds a program's sites and writes into each part which of them it is.
func Number(program *tree.Program) {
	program.Sites = nil
	n := numberer{program: program}
	for _, f := range program.Funcs {
		n.block(f.Body)
	}
}

func (n *numberer) add(kind, at int) int {
	n.program.Sites = append(n.program.Sites, api.Site{Kind: kind, At: at})
	return len(n.program.Sites) - 1
}

func (n *numberer) block(body []tree.Stmt) {
	for _, stmt := range body {
		n.stmt(stmt)
	}
}

func (n *numberer) stmt(stmt tree.Stmt) {
	switch s := stmt.(type) {
	case *tree.Set:
		n.expr(s.Value)
	case *tree.Store:
		s.Site = n.add(api.Store, s.Array.At)
		n.expr(s.Index)
		n.expr(s.Value)
	case *tree.If:
		n.cond(s.Cond)
		n.block(s.Then)
		n.block(s.Else)
	case *tree.While:
		n.cond(s.Cond)
		n.block(s.Body)
	case *tree.Return:
		n.expr(s.Value)
	case *tree.Out:
		n.expr(s.Value)
	}
}

func (n *numberer) cond(cond tree.Cond) {
	switch c := cond.(type) {
	case *tree.Compare:
		n.expr(c.Left)
		n.expr(c.Right)
	case *tree.Logic:
		n.cond(c.Left)
		n.cond(c.Right)
	}
}

func (n *numberer) expr(expr tree.Expr) {
	switch e := expr.(type) {
	case *tree.Element:
		e.Site = n.add(api.Load, e.Array.At)
		n.expr(e.Index)
	case *tree.Call:
		n.call(e)
	case *tree.Bracket:
		n.expr(e.Inner)
	case *tree.Negate:
		n.expr(e.Inner)
	case *tree.Binary:
		n.binary(e)
	}
}

func (n *numberer) call(c *tree.Call) {
	c.Site = api.None
	if len(n.program.Funcs[c.Func.Which].Wheres) > 0 {
		c.Site = n.add(api.Call, c.Func.At)
	}
	for _, arg := range c.Args {
		n.expr(arg)
	}
}

func (n *numberer) binary(b *tree.Binary) {
	n.expr(b.Left)
	b.Site = api.None
	if b.Op == words.Divide || b.Op == words.Rest {
		b.Site = n.add(api.Divide, b.At)
	}
	n.expr(b.Right)
}
