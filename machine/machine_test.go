package machine

import (
	"math"
	"slices"
	"testing"

	"surefoot/api"
	. "surefoot/code"
)

const (
	least = math.MinInt64
	most  = math.MaxInt64
)

// codeOf makes a code of kinds and numbers.
func codeOf(t *testing.T, parts ...Op) *Code {
	t.Helper()
	var cells []int
	for _, part := range parts {
		cells = append(cells, int(part))
	}
	c, ok := FromCells(cells)
	if !ok {
		t.Fatalf("P14: %v is no code", parts)
	}
	return c
}

func runs(t *testing.T, c *Code, args []int64, fuel int, want api.Result) {
	t.Helper()
	got := Run(c, args, fuel)
	if got.End != want.End || got.Value != want.Value || got.Site != want.Site || !slices.Equal(got.Outs, want.Outs) {
		t.Errorf("P12, P15: %v with %d: %+v, want %+v", args, fuel, got, want)
	}
}

func done(value int64, outs ...int64) api.Result {
	return api.Result{End: api.Done, Value: value, Site: api.None, Outs: outs}
}

func trap(site int, outs ...int64) api.Result {
	return api.Result{End: api.Trap, Site: site, Outs: outs}
}

func ended(end int, outs ...int64) api.Result {
	return api.Result{End: end, Site: api.None, Outs: outs}
}

func TestOperators(t *testing.T) {
	for _, c := range []struct {
		op         Op
		x, y, want int64
	}{
		{Plus, 3, 4, 7}, {Plus, most, 1, least}, {Minus, 3, 4, -1}, {Minus, least, 1, most}, {Times, 3, -4, -12}, {Times, 1 << 32, 1 << 32, 0},
		{Divide, 7, 2, 3}, {Divide, -7, 2, -3}, {Divide, 7, -2, -3}, {Divide, least, -1, least}, {Rest, 7, 2, 1}, {Rest, -7, 2, -1}, {Rest, 7, -2, 1}, {Rest, least, -1, 0},
	} {
		runs(t, codeOf(t, Main, 2, Variable, 0, Variable, 1, c.op, Return, End), []int64{c.x, c.y}, 9, done(c.want))
	}
	runs(t, codeOf(t, Main, 2, Variable, 0, Negate, Return, End), []int64{3, 4}, 9, done(-3))
	runs(t, codeOf(t, Main, 2, Variable, 0, Negate, Return, End), []int64{least, 4}, 9, done(least))
	runs(t, codeOf(t, Main, 2, Number, api.MaxNumber, Return, End), []int64{3, 4}, 9, done(api.MaxNumber))
	runs(t, codeOf(t, Main, 2, End), []int64{3, 4}, 9, done(0))
}

func TestVariablesAndArrays(t *testing.T) {
	c := codeOf(t, Array, 3, Array, 2, Main, 1,
		Variable, 0, Set, 11, Begin, Variable, 11, Out, Begin, Variable, 5, Out,
		Number, 2, Number, 7, Store, 0, Number, 1, Variable, 0, Store, 1,
		Begin, Number, 2, Load, 0, Out, Begin, Number, 1, Load, 1, Out, Begin, Number, 1, Load, 0, Out, End)
	runs(t, c, []int64{4}, 99, done(0, 4, 0, 7, 4, 0))
	runs(t, c, []int64{5}, 99, done(0, 5, 0, 7, 5, 0))
}

func TestWhatGoesAstray(t *testing.T) {
	loads := codeOf(t, Array, 64, Array, 3, Main, 1, Begin, Number, 8, Out, Variable, 0, Load, 1, Return, End)
	stores := codeOf(t, Array, 64, Array, 3, Main, 1, Begin, Number, 8, Out, Variable, 0, Number, 5, Store, 1, Number, 1, Return, End)
	for _, i := range []int64{0, 2} {
		runs(t, loads, []int64{i}, 9, done(0, 8))
		runs(t, stores, []int64{i}, 9, done(1, 8))
	}
	for _, i := range []int64{least, -1, 3, 63, 64, 1 << 32, most} {
		runs(t, loads, []int64{i}, 9, ended(api.Wild, 8))
		runs(t, stores, []int64{i}, 9, ended(api.Wild, 8))
	}
	for op, want := range map[Op]int64{Divide: 2, Rest: 4} {
		c := codeOf(t, Main, 1, Begin, Number, 8, Out, Number, 16, Variable, 0, op, Return, End)
		runs(t, c, []int64{6}, 9, done(want, 8))
		runs(t, c, []int64{0}, 9, ended(api.Wild, 8))
	}
	calls := codeOf(t, Func, 1, Where, Op(Less), IsParam, 0, IsNumber, 3, Main, 1, Variable, 0, Return, End, Begin, Number, 8, Out, Variable, 0, Call, 0, Return, End)
	runs(t, calls, []int64{2}, 9, done(2, 8))
	runs(t, calls, []int64{3}, 9, ended(api.Wild, 8))
}

// TestLooks has instructions that go astray where nobody has looked, or looked elsewhere.
func TestLooks(t *testing.T) {
	load := codeOf(t, Array, 2, Array, 5, Main, 1, Variable, 0, LookLoad, 0, 6, Load, 1, Return, End)
	runs(t, load, []int64{1}, 9, done(0))
	runs(t, load, []int64{2}, 9, trap(6))
	runs(t, load, []int64{-1}, 9, trap(6))
	load = codeOf(t, Array, 2, Array, 5, Main, 1, Variable, 0, LookLoad, 1, 6, Load, 0, Return, End)
	runs(t, load, []int64{2}, 9, ended(api.Wild))
	runs(t, load, []int64{5}, 9, trap(6))
	store := codeOf(t, Array, 2, Main, 2, Variable, 0, Variable, 1, LookStore, 0, 0, Store, 0, Number, 1, Load, 0, Return, End)
	runs(t, store, []int64{1, 8}, 9, done(8))
	runs(t, store, []int64{2, 1}, 9, trap(0))
	runs(t, store, []int64{-1, 1}, 9, trap(0))
	divide := codeOf(t, Main, 2, Variable, 0, Variable, 1, LookDivide, api.MaxNumber, Rest, Return, End)
	runs(t, divide, []int64{0, 3}, 9, done(0))
	runs(t, divide, []int64{7, 0}, 9, trap(api.MaxNumber))
	call := codeOf(t, Func, 2, Where, Op(Less), IsParam, 0, IsParam, 1, Main, 2, Variable, 0, Return, End, Number, 9, Variable, 0, Variable, 1, LookCall, 0, 4, Call, 0, Minus, Return, End)
	runs(t, call, []int64{2, 3}, 9, done(7))
	runs(t, call, []int64{3, 3}, 9, trap(4))
}

func TestJumps(t *testing.T) {
	for comparison := Less; comparison <= Unequal; comparison++ {
		c := codeOf(t, Main, 2, Variable, 0, Variable, 1, JumpIf, 12, Op(comparison), Number, 5, Return, Number, 6, Return, End)
		for _, pair := range [][]int64{{1, 2}, {2, 2}, {3, 2}, {least, most}, {most, least}} {
			want := done(5)
			if comparison.Holds(pair[0], pair[1]) {
				want = done(6)
			}
			runs(t, c, pair, 9, want)
		}
	}
	runs(t, codeOf(t, Main, 0, Jump, 7, Number, 1, Return, Number, 2, Return, End), nil, 9, done(2))
	// One for main, one for each round.
	loop := codeOf(t, Main, 1, Round, Variable, 0, Number, 0, JumpIf, 19, Op(AtMost), Variable, 0, Number, 1, Minus, Set, 0, Jump, 2, Number, 4, Return, End)
	runs(t, loop, []int64{5}, 7, done(4))
	runs(t, loop, []int64{5}, 6, ended(api.Spent))
	for _, fuel := range []int{api.MaxFuel, api.MaxFuel + 1, math.MaxInt} {
		runs(t, loop, []int64{api.MaxFuel - 2}, fuel, done(4))
		runs(t, loop, []int64{api.MaxFuel - 1}, fuel, ended(api.Spent))
	}
}

func TestCalls(t *testing.T) {
	// Each has variables of its own: the second parameter is 0 behind the calls, where it was set.
	c := codeOf(t, Array, 1, Func, 1, Main, 2, Number, 50, Set, 1, Number, 0, Variable, 0, Store, 0, Variable, 0, Variable, 1, Plus, Return, End,
		Number, 3, Variable, 1, Call, 0, Variable, 0, Call, 0, Times, Minus, Variable, 1, Plus, Number, 0, Load, 0, Plus, Return, End)
	runs(t, c, []int64{2, 7}, 3, done(3-57*52+7+2))
	runs(t, c, []int64{2, 7}, 2, ended(api.Spent))
}

func TestCallsThatRun(t *testing.T) {
	// It calls itself so many times as its argument says.
	c := codeOf(t, Main, 1, Variable, 0, Number, 0, JumpIf, 17, Op(AtMost), Variable, 0, Number, 1, Minus, Call, 0, Return, Number, 3, Return, End)
	for _, n := range []int64{0, 1, api.MaxCalls - 2, api.MaxCalls - 1} {
		runs(t, c, []int64{n}, int(n)+1, done(3))
		runs(t, c, []int64{n}, int(n), ended(api.Spent))
	}
	runs(t, c, []int64{api.MaxCalls}, api.MaxCalls-1, ended(api.Spent))
	runs(t, c, []int64{api.MaxCalls}, api.MaxCalls, ended(api.Deep))
	runs(t, c, []int64{most}, api.MaxFuel, ended(api.Deep))
	// They count no more when they are over.
	again := codeOf(t, Func, 0, Main, 1, End, Round, Variable, 0, Number, 0, JumpIf, 25, Op(AtMost), Variable, 0, Number, 1, Minus, Call, 0, Plus, Set, 0, Jump, 5, End)
	runs(t, again, []int64{500}, 2000, done(0))
}

func TestMainThatRefuses(t *testing.T) {
	c := codeOf(t, Func, 0, Main, 2, Where, Op(Less), IsParam, 0, IsParam, 1, Where, Op(Unequal), IsParam, 0, IsNegative, 3, End, Begin, Number, 1, Out, Variable, 1, Return, End)
	runs(t, c, []int64{1, 2}, 9, done(2, 1))
	for _, args := range [][]int64{{2, 2}, {-3, 2}, nil, {1}, {1, 2, 3}, make([]int64, 99)} {
		for _, fuel := range []int{math.MinInt, -1, 0, 1, 9, math.MaxInt} {
			runs(t, c, args, fuel, ended(api.Refused))
		}
	}
}

func TestFuel(t *testing.T) {
	c := codeOf(t, Main, 0, Begin, Begin, Number, 1, Out, Round, Begin, Number, 2, Out, End)
	for fuel, want := range []api.Result{ended(api.Spent), ended(api.Spent), ended(api.Spent), ended(api.Spent, 1), ended(api.Spent, 1), done(0, 1, 2)} {
		runs(t, c, nil, fuel, want)
	}
	for _, fuel := range []int{math.MinInt, -1} {
		runs(t, c, nil, fuel, ended(api.Spent))
	}
	// A call is looked at, then counted, then takes its fuel.
	look := codeOf(t, Main, 1, Where, Op(Greater), IsParam, 0, IsNumber, 0, Variable, 0, Number, 1, Minus, LookCall, 0, 5, Call, 0, Return, End)
	runs(t, look, []int64{1}, 1, trap(5))
	runs(t, look, []int64{2}, 1, ended(api.Spent))
	runs(t, look, []int64{60}, 60, trap(5))
	runs(t, look, []int64{61}, 60, ended(api.Deep))
	runs(t, look, []int64{61}, 59, ended(api.Spent))
	wild := codeOf(t, Main, 1, Where, Op(Greater), IsParam, 0, IsNumber, 0, Variable, 0, Number, 1, Minus, Call, 0, Return, End)
	runs(t, wild, []int64{60}, 60, ended(api.Wild))
	runs(t, wild, []int64{61}, 60, ended(api.Deep))
}
