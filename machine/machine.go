// Package machine runs codes.
package machine

import (
	"surefoot/api"
	"surefoot/code"
)

// machine is a run of a code. What a code may not have, such as too little on the stack, was found out when it was made.
type machine struct {
	code    *code.Code
	at      int // the cell with which it goes on
	stack   []int64
	arrays  [api.MaxArrays][api.MaxLength]int64
	frames  [api.MaxCalls]frame
	running int // how many of the frames are
	fuel    int
	result  api.Result
}

// frame is one function that is running.
type frame struct {
	vars [api.MaxVars]int64
	back int // the cell with which its caller goes on
}

// Run gives what a code does with these arguments and this fuel.
func Run(c *code.Code, args []int64, fuel int) api.Result {
	m := &machine{code: c, fuel: min(max(fuel, 0), api.MaxFuel)}
	m.result.Site = api.None
	main := &c.Funcs[c.Main]
	if len(args) == main.Params && main.Takes(args) {
		m.enter(main, args)
	} else {
		m.stop(api.Refused)
	}
	for m.result.End == 0 {
		m.step()
	}
	return m.result
}

func (m *machine) stop(end int) { m.result.End = end }

// next gives the next cell and goes behind it.
func (m *machine) next() int {
	m.at++
	return m.code.Cell(m.at - 1)
}

func (m *machine) push(n int64) { m.stack = append(m.stack, n) }

func (m *machine) pop() int64 {
	n := m.top(1)[0]
	m.stack = m.stack[:len(m.stack)-1]
	return n
}

// top gives what lies on top of the stack, so many numbers.
func (m *machine) top(n int) []int64 { return m.stack[len(m.stack)-n:] }

func (m *machine) now() *frame { return &m.frames[m.running-1] }

// burn takes one of the fuel.
func (m *machine) burn() {
	if m.fuel == 0 {
		m.stop(api.Spent)
		return
	}
	m.fuel--
}

// call does not look, but a call with arguments that the function does not take goes astray.
func (m *machine) call(f *code.Function) {
	args := m.top(f.Params)
	m.stack = m.stack[:len(m.stack)-f.Params]
	if !f.Takes(args) {
		m.stop(api.Wild)
		return
	}
	m.enter(f, args)
}

// enter begins a function. Where that ends, the run goes on with the next cell.
func (m *machine) enter(f *code.Function, args []int64) {
	if m.running == api.MaxCalls {
		m.stop(api.Deep)
		return
	}
	m.running++
	*m.now() = frame{back: m.at}
	copy(m.now().vars[:], args)
	m.at = f.Start
	m.burn()
}

// leave ends a function that gives this value.
func (m *machine) leave(value int64) {
	m.at = m.now().back
	m.running--
	if m.running == 0 {
		m.stop(api.Done)
		m.result.Value = value
		return
	}
	m.push(value)
}
