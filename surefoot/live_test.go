package surefoot

import (
	"math"
	"math/rand"
	"strconv"
	"strings"
)

// liveMaker makes random programs that do something: loops that mostly end, indices that mostly are within, functions that mostly take what they are given.
type liveMaker struct {
	rand   *rand.Rand
	out    strings.Builder
	arrays []int // their lengths
	funcs  []int // how many parameters they have; the last is main
	vars   []string
	lets   int
	nest   int
}

func (m *liveMaker) one(n int) bool { return m.rand.Intn(n) == 0 }

func (m *liveMaker) pick(list ...string) string { return list[m.rand.Intn(len(list))] }

func (m *liveMaker) put(parts ...string) { m.out.WriteString(strings.Join(parts, "")) }

func (m *liveMaker) funcName(i int) string {
	if i == len(m.funcs)-1 {
		return "main"
	}
	return "f" + strconv.Itoa(i)
}

// program gives the text.
func (m *liveMaker) program() string {
	m.out.Reset()
	m.arrays, m.funcs = nil, nil
	for range m.rand.Intn(4) {
		m.arrays = append(m.arrays, 1+m.rand.Intn(1+m.rand.Intn(64)))
	}
	for range 1 + m.rand.Intn(4) {
		m.funcs = append(m.funcs, m.rand.Intn(5))
	}
	for i, length := range m.arrays {
		if m.one(2) {
			m.array(i, length)
		}
	}
	for i, params := range m.funcs {
		m.function(i, params)
	}
	for i, length := range m.arrays {
		if !strings.Contains(m.out.String(), "arr a"+strconv.Itoa(i)+" ") {
			m.array(i, length)
		}
	}
	return m.out.String()
}

func (m *liveMaker) array(i, length int) {
	m.put("arr a", strconv.Itoa(i), " ", strconv.Itoa(length), ";\n")
}

func (m *liveMaker) function(i, params int) {
	m.vars, m.lets, m.nest = nil, 0, 0
	for p := range params {
		m.vars = append(m.vars, "p"+strconv.Itoa(p))
	}
	m.put("fn ", m.funcName(i), "(", strings.Join(m.vars, ","), ")")
	if m.one(3) {
		m.wheres()
	}
	m.put(" {\n")
	// Functions that call themselves are to end: most ask first how far they are.
	if params > 0 && !m.one(4) {
		m.put("if p0 < 1 { return ", m.number(), "; }\n")
	}
	m.block(1 + m.rand.Intn(6))
	m.put("}\n")
}

func (m *liveMaker) wheres() {
	atom := func() string {
		if len(m.vars) > 0 && !m.one(4) {
			return m.pick(m.vars...)
		}
		return m.pick("", "-") + m.number()
	}
	for i := range 1 + m.rand.Intn(3) {
		m.put([]string{" where ", ", "}[min(i, 1)], atom(), " ", m.op(), " ", atom())
	}
}

func (m *liveMaker) op() string { return m.pick("<", "<=", ">", ">=", "==", "!=", "!=", "<", ">") }

func (m *liveMaker) number() string {
	switch m.rand.Intn(12) {
	case 0:
		return m.pick("999999999", "64", "63", "100")
	case 1, 2:
		return strconv.Itoa(m.rand.Intn(70))
	}
	return strconv.Itoa(m.rand.Intn(6))
}

func (m *liveMaker) block(stmts int) {
	m.nest++
	for range stmts {
		m.stmt()
	}
	m.nest--
}

func (m *liveMaker) letName() string {
	m.lets++
	return "v" + strconv.Itoa(m.lets)
}

func (m *liveMaker) stmt() {
	switch n := m.rand.Intn(20); {
	case n < 4 && len(m.vars) < 11:
		name := m.letName()
		m.put("let ", name, " = ", m.expr(2), ";\n")
		m.vars = append(m.vars, name)
	case n < 8 && len(m.vars) > 0:
		m.put(m.pick(m.vars...), " = ", m.expr(2), ";\n")
	case n < 10 && len(m.arrays) > 0:
		m.put(m.element(1), " = ", m.expr(2), ";\n")
	case n < 14 && m.nest < 4:
		m.ifStmt()
	case n < 17 && m.nest < 3 && len(m.vars) < 11:
		m.whileStmt()
	case n == 17 && m.one(2):
		m.put("return ", m.expr(2), ";\n")
	default:
		m.put("out ", m.expr(2), ";\n")
	}
}

func (m *liveMaker) ifStmt() {
	m.put("if ", m.cond(), " {\n")
	m.block(m.rand.Intn(4))
	if m.one(2) {
		m.put("} else {\n")
		m.block(m.rand.Intn(3))
	}
	m.put("}\n")
}

// whileStmt makes a loop that counts, mostly.
func (m *liveMaker) whileStmt() {
	if m.one(6) {
		m.put("while ", m.cond(), " {\n")
		m.block(1 + m.rand.Intn(3))
		m.put("}\n")
		return
	}
	i := m.letName()
	more := ""
	if m.one(3) {
		more = m.pick(" && ", " || ") + m.compare()
	}
	up := m.one(2)
	if up {
		m.put("let ", i, " = ", m.pick("0", "0", "1", m.expr(0)), ";\nwhile ", i, m.pick(" < ", " <= ", " != "), m.pick("5", "9", m.expr(0)), more, " {\n")
	} else {
		m.put("let ", i, " = ", m.pick("5", "9", m.expr(0)), ";\nwhile ", i, m.pick(" > ", " >= ", " != "), m.pick("0", "0", "1", m.expr(0)), more, " {\n")
	}
	m.vars = append(m.vars, i)
	m.block(1 + m.rand.Intn(3))
	if up {
		m.put(i, " = ", i, " + ", m.pick("1", "1", "2"), ";\n}\n")
	} else {
		m.put(i, " = ", i, " - ", m.pick("1", "1", "2"), ";\n}\n")
	}
}

func (m *liveMaker) cond() string {
	cond := m.compare()
	for m.one(3) {
		cond += m.pick(" && ", " || ") + m.compare()
	}
	return cond
}

func (m *liveMaker) compare() string {
	left := m.expr(1)
	if len(m.vars) > 0 && !m.one(3) {
		left = m.pick(m.vars...)
	}
	if m.one(6) {
		left = "(" + left + ")"
	}
	right := m.number()
	if m.one(3) {
		right = m.expr(1)
	}
	if m.one(4) {
		left, right = right, left
	}
	return left + " " + m.op() + " " + right
}

func (m *liveMaker) element(deep int) string {
	i := m.rand.Intn(len(m.arrays))
	index := m.expr(deep)
	switch m.rand.Intn(6) {
	case 0:
		index = strconv.Itoa(m.rand.Intn(m.arrays[i]))
	case 1, 2:
		index = "(" + index + ") % " + strconv.Itoa(m.arrays[i])
	case 3:
		if len(m.vars) > 0 {
			index = m.pick(m.vars...)
		}
	}
	return "a" + strconv.Itoa(i) + "[" + index + "]"
}

// expr makes an expression of no more than so many operators one in the other.
func (m *liveMaker) expr(deep int) string {
	if deep == 0 || m.one(4) {
		if len(m.vars) == 0 || m.one(3) {
			return m.number()
		}
		return m.pick(m.vars...)
	}
	switch m.rand.Intn(12) {
	case 0:
		return "-" + m.pick("", "-") + m.expr(deep-1)
	case 1, 2:
		if len(m.arrays) > 0 {
			return m.element(deep - 1)
		}
	case 3, 4:
		return m.call(deep - 1)
	case 5:
		return "(" + m.expr(deep-1) + ")"
	case 6:
		return m.expr(deep-1) + m.pick(" / ", " % ") + m.pick("2", "7", "1", "0", "(-1)", m.expr(0))
	case 7:
		return m.expr(deep-1) + " * " + m.expr(deep-1)
	}
	return m.expr(deep-1) + m.pick(" + ", " - ") + m.expr(deep-1)
}

func (m *liveMaker) call(deep int) string {
	i := m.rand.Intn(len(m.funcs))
	args := make([]string, m.funcs[i])
	for a := range args {
		args[a] = m.expr(deep)
		if a == 0 && len(m.vars) > 0 && !m.one(4) {
			args[a] = m.vars[0] + " - 1"
		}
	}
	return m.funcName(i) + "(" + strings.Join(args, ", ") + ")"
}

// args makes as many as main takes, mostly.
func (m *liveMaker) args(params int) []int64 {
	if m.one(20) {
		params = m.rand.Intn(6)
	}
	args := make([]int64, params)
	for i := range args {
		switch m.rand.Intn(8) {
		case 0:
			args[i] = []int64{math.MinInt64, math.MinInt64 + 1, math.MaxInt64, math.MaxInt64 - 1, 1 << 32, 999999999}[m.rand.Intn(6)]
		case 1:
			args[i] = m.rand.Int63() >> m.rand.Intn(63)
		case 2:
			args[i] = -int64(m.rand.Intn(70))
		default:
			args[i] = int64(m.rand.Intn(9))
		}
	}
	return args
}
