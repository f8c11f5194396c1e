// Package names finds out what the names of a program mean.
package names

import (
	"surefoot/api"
	"surefoot/tree"
)

// resolver goes through a program in the order of its text, so its first fault is the first in the text.
type resolver struct {
	program *tree.Program
	first   map[string]int // which item has a name first
	vars    map[string]int // which variable of the function has a name: those that are there so far
	fault   api.Fault
}

// Resolve writes into a tree what its names mean, or tells the first fault. end is the text's length.
func Resolve(program *tree.Program, end int) api.Fault {
	r := resolver{program: program, first: map[string]int{}, vars: map[string]int{}}
	r.gather()
	for i, item := range program.Items {
		r.item(i, item)
	}
	main, ok := r.meant("main").(*tree.Func)
	if !ok {
		r.fail(api.ErrName, end)
		return r.fault
	}
	program.Main = main.Name.Which
	return r.fault
}

func (r *resolver) fail(code api.Errno, at int) {
	if r.fault.Code == api.OK {
		r.fault = api.Fault{Code: code, At: at}
	}
}

// gather finds all arrays and functions ahead of the rest: they may stand behind what names them.
func (r *resolver) gather() {
	p := r.program
	for i, item := range p.Items {
		switch it := item.(type) {
		case *tree.Array:
			it.Name.Which = len(p.Arrays)
			p.Arrays = append(p.Arrays, it)
		case *tree.Func:
			it.Name.Which = len(p.Funcs)
			p.Funcs = append(p.Funcs, it)
		}
		text := item.Declared().Text
		if _, ok := r.first[text]; !ok {
			r.first[text] = i
		}
	}
}

// meant gives the array or function of this name, or nil.
func (r *resolver) meant(text string) tree.Item {
	i, ok := r.first[text]
	if !ok {
		return nil
	}
	return r.program.Items[i]
}

func (r *resolver) item(i int, item tree.Item) {
	name := item.Declared()
	if r.first[name.Text] != i {
		r.fail(api.ErrName, name.At)
	}
	switch it := item.(type) {
	case *tree.Array:
		r.array(it)
	case *tree.Func:
		r.function(it)
	}
}

func (r *resolver) array(a *tree.Array) {
	if a.Name.Which >= api.MaxArrays {
		r.fail(api.ErrCount, a.Name.At)
	}
	if a.Length < 1 || a.Length > api.MaxLength {
		r.fail(api.ErrCount, a.LengthAt)
	}
}

func (r *resolver) function(f *tree.Func) {
	if f.Name.Which >= api.MaxFuncs {
		r.fail(api.ErrCount, f.Name.At)
	}
	clear(r.vars)
	for i := range f.Params {
		r.newVar(&f.Params[i], api.MaxParams)
		r.addVar(&f.Params[i])
	}
	for i, where := range f.Wheres {
		r.expr(where.Left)
		if i >= api.MaxWheres {
			r.fail(api.ErrCount, where.At)
		}
		r.expr(where.Right)
	}
	r.block(f.Body)
	f.Vars = len(r.vars)
}

// newVar looks whether a variable may have this name, where there may be so many.
func (r *resolver) newVar(name *tree.Name, most int) {
	if _, ok := r.vars[name.Text]; ok {
		r.fail(api.ErrName, name.At)
	}
	if len(r.vars) >= most {
		r.fail(api.ErrCount, name.At)
	}
}

func (r *resolver) addVar(name *tree.Name) {
	name.Which = len(r.vars)
	r.vars[name.Text] = name.Which
}

func (r *resolver) oldVar(name *tree.Name) {
	which, ok := r.vars[name.Text]
	if !ok {
		r.fail(api.ErrName, name.At)
	}
	name.Which = which
}

func (r *resolver) block(body []tree.Stmt) {
	for _, stmt := range body {
		r.stmt(stmt)
	}
}

func (r *resolver) stmt(stmt tree.Stmt) {
	switch s := stmt.(type) {
	case *tree.Set:
		r.set(s)
	case *tree.Store:
		r.arrayName(&s.Array)
		r.expr(s.Index)
		r.expr(s.Value)
	case *tree.If:
		r.cond(s.Cond)
		r.block(s.Then)
		r.block(s.Else)
	case *tree.While:
		r.cond(s.Cond)
		r.block(s.Body)
	case *tree.Return:
		r.expr(s.Value)
	case *tree.Out:
		r.expr(s.Value)
	}
}

func (r *resolver) set(s *tree.Set) {
	if !s.IsLet {
		r.oldVar(&s.Var)
		r.expr(s.Value)
		return
	}
	r.newVar(&s.Var, api.MaxVars)
	r.expr(s.Value)
	// Not sooner: the value of a let does not know its variable yet.
	r.addVar(&s.Var)
}

func (r *resolver) cond(cond tree.Cond) {
	switch c := cond.(type) {
	case *tree.Compare:
		r.expr(c.Left)
		r.expr(c.Right)
	case *tree.Logic:
		r.cond(c.Left)
		r.cond(c.Right)
	}
}

func (r *resolver) expr(expr tree.Expr) {
	switch e := expr.(type) {
	case *tree.Variable:
		r.oldVar(&e.Name)
	case *tree.Element:
		r.arrayName(&e.Array)
		r.expr(e.Index)
	case *tree.Call:
		r.call(e)
	case *tree.Bracket:
		r.expr(e.Inner)
	case *tree.Negate:
		r.expr(e.Inner)
	case *tree.Binary:
		r.expr(e.Left)
		r.expr(e.Right)
	}
}

func (r *resolver) arrayName(name *tree.Name) {
	array, ok := r.meant(name.Text).(*tree.Array)
	if !ok {
		r.fail(api.ErrName, name.At)
		return
	}
	name.Which = array.Name.Which
}

func (r *resolver) call(c *tree.Call) {
	f, ok := r.meant(c.Func.Text).(*tree.Func)
	switch {
	case !ok:
		r.fail(api.ErrName, c.Func.At)
	case len(c.Args) != len(f.Params):
		r.fail(api.ErrCount, c.Func.At)
	default:
		c.Func.Which = f.Name.Which
	}
	for _, arg := range c.Args {
		r.expr(arg)
	}
}
