package machine

import (
	"surefoot/api"
	"surefoot/code"
)

// step does one instruction.
func (m *machine) step() {
	switch op := code.Op(m.next()); op {
	case code.Number:
		m.push(int64(m.next()))
	case code.Variable:
		m.push(m.now().vars[m.next()])
	case code.Load:
		m.load(m.next(), m.pop())
	case code.Call:
		m.call(m.function())
	case code.Negate:
		m.push(-m.pop())
	case code.Plus, code.Minus, code.Times, code.Divide, code.Rest:
		right := m.pop()
		m.work(op, m.pop(), right)
	case code.LookLoad, code.LookStore, code.LookDivide, code.LookCall:
		m.look(op)
	default:
		m.statement(op)
	}
}

func (m *machine) statement(op code.Op) {
	switch op {
	case code.Begin, code.Round:
		m.burn()
	case code.Set:
		m.now().vars[m.next()] = m.pop()
	case code.Store:
		value := m.pop()
		m.store(m.next(), m.pop(), value)
	case code.Out:
		m.result.Outs = append(m.result.Outs, m.pop())
	case code.Return:
		m.leave(m.pop())
	case code.Jump:
		m.at = m.next()
	case code.JumpIf:
		m.jumpIf(m.next(), code.Comparison(m.next()))
	case code.End:
		m.leave(0)
	}
}

func (m *machine) jumpIf(to int, comparison code.Comparison) {
	right := m.pop()
	if comparison.Holds(m.pop(), right) {
		m.at = to
	}
}

func (m *machine) function() *code.Function { return &m.code.Funcs[m.next()] }

// has tells whether an array has a number there.
func (m *machine) has(array int, index int64) bool {
	return index >= 0 && index < int64(m.code.Arrays[array])
}

func (m *machine) load(array int, index int64) {
	if !m.has(array, index) {
		m.stop(api.Wild)
		return
	}
	m.push(m.arrays[array][index])
}

func (m *machine) store(array int, index, value int64) {
	if !m.has(array, index) {
		m.stop(api.Wild)
		return
	}
	m.arrays[array][index] = value
}

func (m *machine) work(op code.Op, left, right int64) {
	switch {
	case op == code.Plus:
		m.push(left + right)
	case op == code.Minus:
		m.push(left - right)
	case op == code.Times:
		m.push(left * right)
	case right == 0:
		m.stop(api.Wild)
	case op == code.Divide:
		m.push(left / right)
	default:
		m.push(left % right)
	}
}

// look traps if what is to follow would go astray.
func (m *machine) look(op code.Op) {
	passes := false
	switch op {
	case code.LookLoad:
		passes = m.has(m.next(), m.top(1)[0])
	case code.LookStore:
		passes = m.has(m.next(), m.top(2)[0])
	case code.LookDivide:
		passes = m.top(1)[0] != 0
	case code.LookCall:
		f := m.function()
		passes = f.Takes(m.top(f.Params))
	}
	if site := m.next(); !passes {
		m.stop(api.Trap)
		m.result.Site = site
	}
}
