// Package tree has the parts of a program that was read.
package tree

import (
	"surefoot/api"
	"surefoot/words"
)

// Name is a name where it stands in the text.
type Name struct {
	Text  string
	At    int
	Which int // of the arrays, the functions or the function's variables it means
}

// Program is a whole program.
type Program struct {
	Items  []Item // arrays and functions, in their order
	Arrays []*Array
	Funcs  []*Func
	Main   int        // which function is main
	Sites  []api.Site // where a run can trap, in the order of the text; whether they are sure is left open
}

// Item is an *Array or a *Func.
type Item interface{ Declared() *Name }

// Array is an array of a fixed length.
type Array struct {
	Name     Name
	Length   int
	LengthAt int
}

// Func is a function. Its parameters are the first of its variables.
type Func struct {
	Name   Name
	Params []Name
	Wheres []*Compare // each side is a *Number (that may be below 0) or a *Variable
	Body   []Stmt
	Vars   int
}

// Declared gives the array's name.
func (a *Array) Declared() *Name { return &a.Name }

// Declared gives the function's name.
func (f *Func) Declared() *Name { return &f.Name }

// Stmt is a *Set, *Store, *If, *While, *Return or *Out.
type Stmt interface{ isStmt() }

// Set gives a variable a value.
type Set struct {
	Var   Name
	Value Expr
	IsLet bool
}

// Store gives a number of an array a value.
type Store struct {
	Array        Name
	Index, Value Expr
	Site         int
}

// If goes one of two ways.
type If struct {
	Cond       Cond
	Then, Else []Stmt
}

// While goes round.
type While struct {
	Cond Cond
	Body []Stmt
}

// Return ends a function.
type Return struct{ Value Expr }

// Out tells a value.
type Out struct{ Value Expr }

func (*Set) isStmt()    {}
func (*Store) isStmt()  {}
func (*If) isStmt()     {}
func (*While) isStmt()  {}
func (*Return) isStmt() {}
func (*Out) isStmt()    {}

// Cond is a *Compare or a *Logic.
type Cond interface{ isCond() }

// Compare holds two values against each other.
type Compare struct {
	Op          words.Kind
	At          int // of its first word
	Left, Right Expr
}

// Logic is words.And or words.Or of two conditions.
type Logic struct {
	Op          words.Kind
	Left, Right Cond
}

func (*Compare) isCond() {}
func (*Logic) isCond()   {}

// Expr is a *Number, *Variable, *Element, *Call, *Bracket, *Negate or *Binary.
type Expr interface{ isExpr() }

// Number is a number that is written out.
type Number struct{ Value int64 }

// Variable is what a variable holds.
type Variable struct{ Name Name }

// Element is a number of an array.
type Element struct {
	Array Name
	Index Expr
	Site  int
}

// Call is what a function gives.
type Call struct {
	Func Name
	Args []Expr
	Site int // api.None if the function has no conditions
}

// Bracket is an expression in brackets.
type Bracket struct{ Inner Expr }

// Negate is an expression turned round.
type Negate struct{ Inner Expr }

// Binary is worked from two values.
type Binary struct {
	Op          words.Kind
	At          int // of the operator
	Left, Right Expr
	Site        int // api.None if it does not divide
}

func (*Number) isExpr()   {}
func (*Variable) isExpr() {}
func (*Element) isExpr()  {}
func (*Call) isExpr()     {}
func (*Bracket) isExpr()  {}
func (*Negate) isExpr()   {}
func (*Binary) isExpr()   {}
