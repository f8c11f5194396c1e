// Package walk runs a program as it stands.
package walk

import (
	"surefoot/api"
	"surefoot/tree"
)

// run is what all functions of a program share while it runs.
// When it is over, what is still worked of the expressions around has no effect any more, so nobody asks for that but where an effect is.
type run struct {
	program *tree.Program
	arrays  [api.MaxArrays][api.MaxLength]int64
	fuel    int
	calls   int // functions that are running
	result  api.Result
}

// frame is one function that is running.
type frame struct {
	*run
	vars  [api.MaxVars]int64
	value int64 // what return said
}

// Run gives what a program does with these arguments and this fuel.
func Run(program *tree.Program, args []int64, fuel int) api.Result {
	r := &run{program: program, fuel: min(max(fuel, 0), api.MaxFuel)}
	r.result.Site = api.None
	main := program.Funcs[program.Main]
	f := frame{run: r}
	copy(f.vars[:], args)
	if len(args) != len(main.Params) || !f.takes(main) {
		r.stop(api.Refused)
		return r.result
	}
	value := f.enter(main)
	if !r.over() {
		r.stop(api.Done)
		r.result.Value = value
	}
	return r.result
}

func (r *run) over() bool { return r.result.End != 0 }

func (r *run) stop(end int) {
	if !r.over() {
		r.result.End = end
	}
}

func (r *run) trap(site int) {
	if !r.over() {
		r.stop(api.Trap)
		r.result.Site = site
	}
}

// burn takes one of the fuel, and tells whether the run goes on.
func (r *run) burn() bool {
	if r.fuel == 0 {
		r.stop(api.Spent)
	}
	if r.over() {
		return false
	}
	r.fuel--
	return true
}

// takes tells whether the function's conditions are so for its arguments, which lie in the frame.
func (f *frame) takes(function *tree.Func) bool {
	for _, where := range function.Wheres {
		if !f.compare(where) {
			return false
		}
	}
	return true
}

// enter runs the function, whose arguments lie in the frame and have been looked at.
func (f *frame) enter(function *tree.Func) int64 {
	if f.calls == api.MaxCalls {
		f.stop(api.Deep)
	}
	f.calls++
	if f.burn() {
		f.block(function.Body)
	}
	f.calls--
	return f.value
}

// block tells whether the function goes on behind it.
func (f *frame) block(body []tree.Stmt) bool {
	for _, stmt := range body {
		if !f.burn() || !f.stmt(stmt) {
			return false
		}
	}
	return true
}

// stmt tells whether the function goes on behind it.
func (f *frame) stmt(stmt tree.Stmt) bool {
	switch s := stmt.(type) {
	case *tree.Set:
		f.vars[s.Var.Which] = f.expr(s.Value)
	case *tree.Store:
		f.store(s)
	case *tree.If:
		if f.cond(s.Cond) {
			return f.block(s.Then)
		}
		return f.block(s.Else)
	case *tree.While:
		return f.while(s)
	case *tree.Return:
		f.value = f.expr(s.Value)
		return false
	case *tree.Out:
		f.out(f.expr(s.Value))
	}
	return true
}

func (f *frame) store(s *tree.Store) {
	index := f.expr(s.Index)
	value := f.expr(s.Value)
	if f.within(s.Array, index, s.Site) {
		f.arrays[s.Array.Which][index] = value
	}
}

// within looks whether an array has a number there.
func (f *frame) within(array tree.Name, index int64, site int) bool {
	if index >= 0 && index < int64(f.program.Arrays[array.Which].Length) {
		return true
	}
	f.trap(site)
	return false
}

func (f *frame) while(s *tree.While) bool {
	for f.burn() && f.cond(s.Cond) {
		if !f.block(s.Body) {
			return false
		}
	}
	return true
}

func (f *frame) out(value int64) {
	if !f.over() {
		f.result.Outs = append(f.result.Outs, value)
	}
}
