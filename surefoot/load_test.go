package surefoot

import (
	"math"
	"math/rand"
	"slices"
	"strings"
	"testing"
	"unsafe"

	"surefoot/api"
	"surefoot/code"
)

// oraclePack writes cells as bytes.
func oraclePack(cells []int) string {
	var bytes []byte
	for _, cell := range cells {
		for ; cell >= 128; cell /= 128 {
			bytes = append(bytes, byte(128+cell%128))
		}
		bytes = append(bytes, byte(cell))
	}
	return string(bytes)
}

// checkLoad wants ErrCode, or a code of these bytes.
func checkLoad(t *testing.T, bytes string) *Code {
	t.Helper()
	c, fault := Load(bytes)
	if c == nil && fault != api.ErrCode || c != nil && (fault != api.OK || c.Bytes() != bytes) {
		t.Fatalf("P14: Load of %.300q: %v, %d", bytes, c != nil, fault)
	}
	return c
}

// checkEnds wants some result of a code, again and again the same.
func checkEnds(t *testing.T, c *Code, args []int64, fuel int) api.Result {
	t.Helper()
	r := c.Run(args, fuel)
	switch {
	case r.End < api.Done || r.End > api.Wild, r.End != api.Done && r.Value != 0, (r.End == api.Trap) != (r.Site != api.None) || r.Site < api.None, len(r.Outs) > min(max(fuel, 0), api.MaxFuel):
		t.Fatalf("P15: Run of %.300q, %v, %d: %+v", c.Bytes(), args, fuel, r)
	case !sameResult(r, c.Run(args, fuel)):
		t.Fatalf("P2: Run of %.300q, %v, %d: %+v, then another", c.Bytes(), args, fuel, r)
	}
	return r
}

// checkAnyEnds runs a code with all numbers of arguments.
func checkAnyEnds(t *testing.T, c *Code, ends map[int]int) {
	t.Helper()
	for _, args := range [][]int64{nil, {3}, {math.MinInt64}, {1, 2}, {-3, 5}, {5, math.MaxInt64, 0}, {1, 2, 3, 4}, make([]int64, 5)} {
		for _, fuel := range []int{300, 7, math.MinInt} {
			ends[checkEnds(t, c, args, fuel).End]++
		}
	}
}

// TestBytesAreAsReadmeSays has the numbers of README.md: with others, bytes that were put by would be loaded no more, or as another code.
func TestBytesAreAsReadmeSays(t *testing.T) {
	p := mustRead(t, "arr a 9;fn f(x)where x>=-5{return 1000/x;}fn main(n){while n<300{a[n]=f(a[8]);n=n+1;}out -n;}")
	want := oraclePack([]int{
		0, 9, 1, 1, 3, 1, 2, 0, 1, 5, 2, 1,
		18, 4, 1000, 5, 0, 16, 0, 12, 23, 26,
		18, 19, 5, 0, 4, 300, 25, 58, 1, 18, 5, 0, 4, 8, 6, 0, 17, 0, 2, 7, 0, 15, 0, 1, 21, 0, 18, 5, 0, 4, 1, 9, 20, 0, 24, 23, 18, 5, 0, 8, 22, 26,
	})
	for _, c := range codesOf(t, p) {
		if got := c.Bytes(); got != want {
			t.Errorf("P13: bytes of %q: %v", p.Print(), oracleCells(got))
		}
	}
}

func TestLoadOfNoCode(t *testing.T) {
	some := mustRead(t, tableText).Compile().Bytes()
	for _, bytes := range []string{"", "x", "SF", tableText, deepText, strings.Repeat("\x00", 100), strings.Repeat("\xff", 30000), some + "\x00", some + some, "\x00" + some, some[1:], strings.Repeat("\x00", api.MaxCode+1) + some} {
		if c := checkLoad(t, bytes); c != nil {
			t.Errorf("P14: %.80q is a code", bytes)
		}
	}
}

// TestLoadOfShortBytes has all there are.
func TestLoadOfShortBytes(t *testing.T) {
	taken, ends := 0, map[int]int{}
	check := func(bytes ...byte) {
		if c := checkLoad(t, string(bytes)); c != nil {
			taken++
			checkAnyEnds(t, c, ends)
		}
	}
	const kinds = int(code.End) + 2
	for i := range 256 {
		check(byte(i))
		for j := range 256 {
			check(byte(i), byte(j))
		}
	}
	for i := range kinds * kinds * kinds * kinds {
		list := []byte{byte(i % kinds), byte(i / kinds % kinds), byte(i / kinds / kinds % kinds), byte(i / kinds / kinds / kinds)}
		check(list[:3]...)
		check(list...)
		check(byte(code.Main), 1, list[0], list[1], list[2], list[3], byte(code.End))
	}
	if taken < 100 {
		t.Errorf("only %d are codes", taken)
	}
}

func TestLoadOfCodesCutShort(t *testing.T) {
	m := liveMaker{rand: rand.New(rand.NewSource(14))}
	for range 100 {
		bytes := m.codeBytes(t)
		for n := range len(bytes) {
			if c := checkLoad(t, bytes[:n]); c != nil {
				t.Fatalf("P14: the first %d bytes of %q are a code", n, bytes)
			}
			if c := checkLoad(t, bytes[n+1:]); c != nil {
				checkAnyEnds(t, c, map[int]int{})
			}
		}
	}
}

func (m *liveMaker) codeBytes(t *testing.T) string { return mustRead(t, m.program()).Compile().Bytes() }

// change makes other bytes of a code: some are others, are missing, are more, or stand elsewhere.
func (m *liveMaker) change(bytes string) string {
	b := []byte(bytes)
	for range 1 + m.rand.Intn(3) {
		i := m.rand.Intn(len(b))
		j := i + m.rand.Intn(min(8, len(b)-i))
		switch m.rand.Intn(10) {
		case 0:
			b = slices.Insert(b, i, byte(m.rand.Intn(32)))
		case 1:
			b = slices.Delete(b, i, min(j, i+len(b)-1))
		case 2:
			b = slices.Insert(b, m.rand.Intn(len(b)), slices.Clone(b[i:j])...)
		case 3:
			b[i], b[j] = b[j], b[i]
		case 4:
			b[i]++
		default:
			b[i] = byte(m.rand.Intn([]int{256, 32, 4}[m.rand.Intn(3)]))
		}
	}
	return string(b)
}

func TestLoadOfChangedCodes(t *testing.T) {
	m := liveMaker{rand: rand.New(rand.NewSource(15))}
	taken, ends := 0, map[int]int{}
	for range 300 {
		bytes := m.codeBytes(t)
		for range 60 {
			if c := checkLoad(t, m.change(bytes)); c != nil {
				taken++
				checkAnyEnds(t, c, ends)
			}
		}
	}
	if taken < 1000 || ends[api.Wild] == 0 {
		t.Errorf("only %d are codes, which end like %v", taken, ends)
	}
}

// cellMaker makes random codes that compiling does not give, of which some have something wrong in them.
type cellMaker struct {
	liveMaker
	cells  []int
	marks  []int // where statements of the body begin
	rounds []int
	jumps  []int
}

func (m *cellMaker) add(op code.Op, operands ...int) {
	m.cells = append(append(m.cells, int(op)), operands...)
}

func (m *cellMaker) upTo(most int) int { return m.rand.Intn(most + 1) }

func (m *cellMaker) code() string {
	m.cells, m.arrays, m.funcs = nil, nil, nil
	for range 1 + m.upTo(2) {
		m.arrays = append(m.arrays, 1+m.upTo(5))
		m.add(code.Array, m.arrays[len(m.arrays)-1])
	}
	which := m.upTo(3)
	for i := range which + 1 + m.upTo(2) {
		m.head(i == which)
	}
	for range m.funcs {
		m.body()
	}
	if m.one(4) {
		m.cells[m.upTo(len(m.cells)-1)] = m.upTo(40)
	}
	return oraclePack(m.cells)
}

func (m *cellMaker) head(isMain bool) {
	op, params := code.Func, m.upTo(3)
	if isMain {
		op = code.Main
	}
	m.funcs = append(m.funcs, params)
	m.add(op, params)
	side := func() (is, number int) {
		if params > 0 && m.one(2) {
			return code.IsParam, m.upTo(params - 1)
		}
		return m.upTo(1), m.upTo(9)
	}
	for m.one(4) {
		left, x := side()
		right, y := side()
		m.add(code.Where, m.upTo(5), left, x, right, y)
	}
}

func (m *cellMaker) body() {
	m.marks, m.rounds, m.jumps = nil, nil, nil
	for range m.upTo(12) {
		m.statement()
	}
	m.marks = append(m.marks, len(m.cells))
	m.add(code.End)
	for _, jump := range m.jumps {
		to := m.marks[m.upTo(len(m.marks)-1)]
		if to < jump && len(m.rounds) > 0 {
			to = m.rounds[m.upTo(len(m.rounds)-1)]
		}
		if to < jump && !slices.Contains(m.rounds, to) && !m.one(9) {
			to = len(m.cells) - 1
		}
		m.cells[jump+1] = to
	}
}

func (m *cellMaker) statement() {
	m.marks = append(m.marks, len(m.cells))
	if !m.one(4) {
		m.add(code.Begin)
	}
	switch m.rand.Intn(8) {
	case 0, 1:
		m.value(2)
		m.add(code.Set, m.upTo(4))
	case 2:
		m.value(2)
		m.value(1)
		m.access(code.LookStore, code.Store)
	case 3:
		m.value(2)
		m.add(code.Out)
	case 4:
		m.rounds = append(m.rounds, len(m.cells))
		m.add(code.Round)
	case 5, 6:
		m.value(1)
		m.value(1)
		m.jumps = append(m.jumps, len(m.cells))
		m.add(code.JumpIf, 0, m.upTo(5))
	default:
		if m.one(2) {
			m.jumps = append(m.jumps, len(m.cells))
			m.add(code.Jump, 0)
			return
		}
		m.value(2)
		m.add(code.Return)
	}
}

func (m *cellMaker) access(look, op code.Op) {
	array := m.upTo(len(m.arrays) - 1)
	if m.one(2) {
		m.add(look, array, m.upTo(300))
	}
	m.add(op, array)
}

// value puts one number on the stack.
func (m *cellMaker) value(deep int) {
	n := m.rand.Intn(10)
	if deep == 0 {
		n %= 5
	}
	switch {
	case n < 2:
		m.add(code.Number, m.upTo(7))
	case n < 5:
		m.add(code.Variable, m.upTo(4))
	case n == 5:
		m.value(deep - 1)
		m.access(code.LookLoad, code.Load)
	case n == 6:
		m.value(deep - 1)
		m.add(code.Negate)
	case n == 7:
		m.callOf(m.upTo(len(m.funcs)-1), deep-1)
	default:
		m.value(deep - 1)
		m.value(deep - 1)
		op := code.Plus + code.Op(m.upTo(4))
		if op >= code.Divide && m.one(2) {
			m.add(code.LookDivide, m.upTo(300))
		}
		m.add(op)
	}
}

func (m *cellMaker) callOf(which, deep int) {
	for range m.funcs[which] {
		m.value(deep)
	}
	if m.one(2) {
		m.add(code.LookCall, which, m.upTo(300))
	}
	m.add(code.Call, which)
}

// TestLoadOfRandomCodes asks for all ends there are.
func TestLoadOfRandomCodes(t *testing.T) {
	m := cellMaker{liveMaker: liveMaker{rand: rand.New(rand.NewSource(16))}}
	taken, ends := 0, map[int]int{}
	for range 20000 {
		if c := checkLoad(t, m.code()); c != nil {
			taken++
			checkAnyEnds(t, c, ends)
		}
	}
	if taken < 2000 || taken > 18000 {
		t.Errorf("%d are codes", taken)
	}
	for _, end := range []int{api.Done, api.Trap, api.Spent, api.Deep, api.Refused, api.Wild} {
		if ends[end] < 200 {
			t.Errorf("only %d of %v with the end %d", ends[end], ends, end)
		}
	}
}

// TestRunOfTheLongestCodes has bodies of as many bytes as there may be, gone round as often as the fuel lets them.
func TestRunOfTheLongestCodes(t *testing.T) {
	head := oraclePack([]int{int(code.Main), 0, int(code.Round)})
	tail := oraclePack([]int{int(code.Jump), 2, int(code.End)})
	number, negate := oraclePack([]int{int(code.Number), 1}), oraclePack([]int{int(code.Negate)})
	room := api.MaxCode - len(head) - len(tail)
	begin, set, out := oraclePack([]int{int(code.Begin)}), oraclePack([]int{int(code.Set), 1}), oraclePack([]int{int(code.Out)})
	for _, body := range []string{
		number + strings.Repeat(negate, room-len(number)-len(set)) + set, strings.Repeat(begin+number+out, room/4), strings.Repeat(begin, room),
		strings.Repeat(number, room/3) + strings.Repeat(oraclePack([]int{int(code.Plus)}), room/3-1) + set,
	} {
		c := checkLoad(t, head+body+tail)
		if c == nil {
			t.Fatalf("P14: %.60q is no code", body)
		}
		if r := c.Run(nil, math.MaxInt); r.End != api.Spent || len(r.Outs) > api.MaxFuel {
			t.Errorf("P15: Run of %.60q: %d", body, r.End)
		}
	}
	for _, more := range []int{0, 1, 2, 10000} {
		if c := checkLoad(t, head+strings.Repeat(begin, room+more)+tail); (c != nil) != (more == 0) {
			t.Errorf("P14: %d bytes: %v", api.MaxCode+more, c != nil)
		}
	}
}

// TestLoadKeepsNoBytes writes over what was loaded.
func TestLoadKeepsNoBytes(t *testing.T) {
	bytes := mustRead(t, tableText).Compile().Bytes()
	list := []byte(bytes)
	c, _ := Load(unsafe.String(&list[0], len(list)))
	clear(list)
	if c.Bytes() != bytes || !sameResult(c.Run([]int64{2}, 999), done(90)) {
		t.Errorf("P2: a code hangs on the bytes that it was loaded from: %q", c.Bytes())
	}
}
