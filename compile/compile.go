// Package compile translates programs into codes.
package compile

import (
	"surefoot/api"
	"surefoot/code"
	"surefoot/tree"
)

// translator puts the code of a program together.
type translator struct {
	program *tree.Program
	sites   []api.Site // of the program, and whether they are sure
	cells   []int
}

// Translate gives the code of a program. It does not look at the sites that are sure.
func Translate(program *tree.Program, sites []api.Site) *code.Code {
	t := translator{program: program, sites: sites}
	for _, array := range program.Arrays {
		t.put(code.Array, array.Length)
	}
	for i, f := range program.Funcs {
		t.head(f, i == program.Main)
	}
	for _, f := range program.Funcs {
		t.block(f.Body)
		t.put(code.End)
	}
	// All that is put in here is in order, so there always is a code.
	made, _ := code.FromCells(t.cells)
	return made
}

// put puts in an instruction with as many operands as it has, and gives its first cell.
func (t *translator) put(op code.Op, operands ...int) int {
	at := len(t.cells)
	t.cells = append(t.cells, int(op))
	t.cells = append(t.cells, operands...)
	return at
}

// later stands for the cell to jump to till that is known.
const later = 0

// land lets these jumps, whose cell to jump to is their first operand, end where the next instruction will stand.
func (t *translator) land(jumps ...int) {
	for _, jump := range jumps {
		t.cells[jump+1] = len(t.cells)
	}
}

// looksAt tells whether the code must look at a site.
func (t *translator) looksAt(site int) bool {
	return site != api.None && !t.sites[site].Sure
}

func (t *translator) head(f *tree.Func, isMain bool) {
	op := code.Func
	if isMain {
		op = code.Main
	}
	t.put(op, len(f.Params))
	for _, where := range f.Wheres {
		left, right := side(where.Left), side(where.Right)
		t.put(code.Where, int(comparison(where.Op)), left.Is, left.Number, right.Is, right.Number)
	}
}

// side gives one side of a condition, where nothing else than these can stand.
func side(expr tree.Expr) code.Side {
	switch e := expr.(type) {
	case *tree.Variable:
		return code.Side{Is: code.IsParam, Number: e.Name.Which}
	case *tree.Number:
		if e.Value < 0 {
			return code.Side{Is: code.IsNegative, Number: int(-e.Value)}
		}
		return code.Side{Is: code.IsNumber, Number: int(e.Value)}
	}
	return code.Side{}
}

func (t *translator) block(body []tree.Stmt) {
	for _, stmt := range body {
		t.put(code.Begin)
		t.stmt(stmt)
	}
}

func (t *translator) stmt(stmt tree.Stmt) {
	switch s := stmt.(type) {
	case *tree.Set:
		t.expr(s.Value)
		t.put(code.Set, s.Var.Which)
	case *tree.Store:
		t.store(s)
	case *tree.If:
		t.ifStmt(s)
	case *tree.While:
		t.while(s)
	case *tree.Return:
		t.expr(s.Value)
		t.put(code.Return)
	case *tree.Out:
		t.expr(s.Value)
		t.put(code.Out)
	}
}

func (t *translator) store(s *tree.Store) {
	t.expr(s.Index)
	t.expr(s.Value)
	if t.looksAt(s.Site) {
		t.put(code.LookStore, s.Array.Which, s.Site)
	}
	t.put(code.Store, s.Array.Which)
}

func (t *translator) ifStmt(s *tree.If) {
	toElse := t.jumpsIf(s.Cond, false)
	t.block(s.Then)
	if len(s.Else) == 0 {
		t.land(toElse...)
		return
	}
	toEnd := t.put(code.Jump, later)
	t.land(toElse...)
	t.block(s.Else)
	t.land(toEnd)
}

func (t *translator) while(s *tree.While) {
	round := t.put(code.Round)
	toEnd := t.jumpsIf(s.Cond, false)
	t.block(s.Body)
	t.put(code.Jump, round)
	t.land(toEnd...)
}
