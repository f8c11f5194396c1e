// Package sure finds out by ranges where no run of a program can trap.
package sure

import (
	"slices"

	"surefoot/api"
	"surefoot/ranges"
	"surefoot/tree"
)

// place is one of the ways through a function that are gone side by side.
type place int

const beginning place = 0

// vars has the range of each variable.
type vars [api.MaxVars]ranges.Range

// rounds is how often the block of a while may change what is known ahead of it, till nothing is held to be known of what it sets.
const rounds = 3

// looker goes through the functions of a program. A site that is gone through again is told anew: the last time counts.
type looker struct {
	program *tree.Program
	sites   []api.Site
	known   map[place]*vars // dead places are not in it; no two share what is known
	newest  place
}

// Sites gives the sites of a program, and which of them are sure.
func Sites(program *tree.Program) []api.Site {
	l := looker{program: program, sites: slices.Clone(program.Sites), known: map[place]*vars{}}
	for _, f := range program.Funcs {
		l.function(f)
	}
	return l.sites
}

func (l *looker) function(f *tree.Func) {
	clear(l.known)
	now := &vars{}
	for i := range f.Params {
		now[i] = ranges.All()
	}
	l.known[beginning] = now
	for _, where := range f.Wheres {
		a, b := l.sides(beginning, where)
		l.hold(beginning, where.Op, a, b)
	}
	l.block(beginning, f.Body)
}

func (l *looker) kill(at place) { delete(l.known, at) }

// fork gives a new place of which the same is known.
func (l *looker) fork(at place) place {
	l.newest++
	if now, alive := l.known[at]; alive {
		same := *now
		l.known[l.newest] = &same
	}
	return l.newest
}

// join lets another place end in this one.
func (l *looker) join(at, other place) {
	there, isThere := l.known[other]
	l.kill(other)
	if !isThere {
		return
	}
	if here, isHere := l.known[at]; isHere {
		for i := range there {
			there[i] = there[i].Meet(here[i])
		}
	}
	l.known[at] = there
}

func (l *looker) block(at place, body []tree.Stmt) {
	for _, stmt := range body {
		l.stmt(at, stmt)
	}
}

// stmt goes through a statement: of the place is known then what is known behind it.
func (l *looker) stmt(at place, stmt tree.Stmt) {
	switch s := stmt.(type) {
	case *tree.Set:
		v := l.view(at)
		v.vars[s.Var.Which] = v.expr(s.Value)
	case *tree.Store:
		v := l.view(at)
		v.index(s.Array, s.Index, s.Site)
		v.expr(s.Value)
	case *tree.If:
		other := l.cond(at, s.Cond)
		l.block(at, s.Then)
		l.block(other, s.Else)
		l.join(at, other)
	case *tree.While:
		l.while(at, s)
	case *tree.Return:
		v := l.view(at)
		v.expr(s.Value)
		l.kill(at)
	case *tree.Out:
		v := l.view(at)
		v.expr(s.Value)
	}
}

// while keeps at the place what is known ahead of each round, till a round changes nothing of that.
func (l *looker) while(at place, s *tree.While) {
	var isSet [api.MaxVars]bool
	markSet(&isSet, s.Body)
	for round := 1; ; round++ {
		in := l.fork(at)
		behind := l.cond(in, s.Cond)
		l.block(in, s.Body)
		changed := l.widen(at, in, &isSet)
		l.kill(in)
		if !changed {
			l.kill(at)
			l.join(at, behind)
			return
		}
		l.kill(behind)
		if round == rounds {
			l.forget(at, &isSet)
		}
	}
}

// widen lets the place hold also after a round that ended elsewhere, and tells whether that changed something.
func (l *looker) widen(at, end place, isSet *[api.MaxVars]bool) bool {
	after, alive := l.known[end]
	if !alive {
		return false
	}
	now := l.known[at]
	ahead := *now
	for i := range now {
		if isSet[i] {
			now[i] = now[i].Widen(after[i])
		}
	}
	return *now != ahead
}

func (l *looker) forget(at place, isSet *[api.MaxVars]bool) {
	now := l.known[at]
	for i := range now {
		if isSet[i] {
			now[i] = ranges.All()
		}
	}
}

// markSet marks the variables that are set in a block, however deep.
func markSet(isSet *[api.MaxVars]bool, body []tree.Stmt) {
	for _, stmt := range body {
		switch s := stmt.(type) {
		case *tree.Set:
			isSet[s.Var.Which] = true
		case *tree.If:
			markSet(isSet, s.Then)
			markSet(isSet, s.Else)
		case *tree.While:
			markSet(isSet, s.Body)
		}
	}
}
