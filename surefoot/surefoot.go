// Package surefoot: a small language, its code, and the checks that it needs not: see DOC.md.
package surefoot

import (
	"surefoot/api"
	"surefoot/code"
	"surefoot/compile"
	"surefoot/grammar"
	"surefoot/machine"
	"surefoot/names"
	"surefoot/sites"
	"surefoot/sure"
	"surefoot/tree"
	"surefoot/walk"
	"surefoot/words"
)

// Program is a program that was read.
type Program struct {
	words []words.Word
	tree  *tree.Program
}

// isNone tells of a program that Read did not give.
func (p *Program) isNone() bool { return p == nil || p.tree == nil }

// Code is a code for the machine.
type Code struct{ code *code.Code }

// isNone tells of a code that neither Compile nor Load gave.
func (c *Code) isNone() bool { return c == nil || c.code == nil }

// Read reads a program (P3 to P5).
func Read(text string) (*Program, api.Fault) {
	list, fault := words.Cut(text)
	if fault.Code != api.OK {
		return nil, fault
	}
	program, fault := grammar.Parse(list)
	if fault.Code != api.OK {
		return nil, fault
	}
	fault = names.Resolve(program, len(text))
	if fault.Code != api.OK {
		return nil, fault
	}
	sites.Number(program)
	return &Program{words: list, tree: program}, api.Fault{}
}

// Print writes a program (P6).
func (p *Program) Print() string {
	if p.isNone() {
		return ""
	}
	return words.Join(p.words)
}

// Params tells how many arguments main takes (P6).
func (p *Program) Params() int {
	if p.isNone() {
		return 0
	}
	return len(p.tree.Funcs[p.tree.Main].Params)
}

// Walk runs a program as it stands (P7, P8).
func (p *Program) Walk(args []int64, fuel int) api.Result {
	if p.isNone() {
		return api.Result{}
	}
	return walk.Run(p.tree, args, fuel)
}

// Sites tells where a run can trap, and where it is sure that it does not (P9 to P11).
func (p *Program) Sites() []api.Site {
	if p.isNone() {
		return nil
	}
	return sure.Sites(p.tree)
}

// Compile translates a program (P12).
func (p *Program) Compile() *Code {
	if p.isNone() {
		return nil
	}
	return &Code{code: compile.Translate(p.tree, sure.Sites(p.tree))}
}

// Bytes writes a code (P13).
func (c *Code) Bytes() string {
	if c.isNone() {
		return ""
	}
	return c.code.Bytes()
}

// Load reads a code (P14).
func Load(bytes string) (*Code, api.Errno) {
	loaded, ok := code.FromBytes(bytes)
	if !ok {
		return nil, api.ErrCode
	}
	return &Code{code: loaded}, api.OK
}

// Run runs a code (P15).
func (c *Code) Run(args []int64, fuel int) api.Result {
	if c.isNone() {
		return api.Result{}
	}
	return machine.Run(c.code, args, fuel)
}
