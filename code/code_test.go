package code

import (
	"math"
	"slices"
	"strings"
	"testing"

	"surefoot/api"
)

// cells lets kinds and numbers stand in one list.
func cells(parts ...Op) []int {
	var list []int
	for _, part := range parts {
		list = append(list, int(part))
	}
	return list
}

// smallest is a code with nothing in it.
func smallest() []int { return cells(Main, 0, End) }

// withMain gives cells of a main without parameters. Two arrays of 9 and 64 numbers, and a function of two, stand ahead: the body begins with cell 10.
func withMain(body ...Op) []int {
	return append(cells(Array, 9, Array, 64, Func, 2, Main, 0, End), cells(append([]Op{Begin}, body...)...)...)
}

const bodyAt = 10

func takes(t *testing.T, list []int) {
	t.Helper()
	if c, ok := FromCells(list); !ok || c == nil || !slices.Equal(c.cells, list) {
		t.Errorf("P14: %v is no code", list)
	}
}

func refuses(t *testing.T, list []int) {
	t.Helper()
	if c, ok := FromCells(slices.Clone(list)); ok || c != nil {
		t.Errorf("P15: %v is a code", list)
	}
}

func TestCodes(t *testing.T) {
	takes(t, smallest())
	takes(t, cells(Array, 1, Array, 64, Array, 3, Array, 4, Array, 5, Array, 6, Main, 4, End))
	takes(t, cells(Func, 4, Where, 0, IsNumber, api.MaxNumber, IsNegative, api.MaxNumber, Where, 5, IsParam, 0, IsParam, 3, Where, 1, 0, 0, 0, 0, Where, 2, 0, 0, 0, 0, Main, 1, Where, 0, 0, 1, 2, 0, End, End))
	takes(t, cells(Func, 0, Func, 0, Func, 0, Main, 0, Func, 0, Func, 0, Func, 0, Func, 0, End, End, End, End, End, End, End, End))
	takes(t, cells(Func, 0, Main, 0, Number, 1, Return, End, End))
	for _, body := range [][]Op{
		{End},
		{Number, api.MaxNumber, Set, api.MaxVars - 1, Variable, api.MaxVars - 1, Return, End},
		{Number, 0, Number, 1, Load, 1, Negate, Plus, LookDivide, 7, Out, End},
		{Number, 0, Number, 1, LookStore, 0, api.MaxNumber, Store, 0, End},
		{Number, 0, LookLoad, 1, 0, Load, 1, Out, End},
		{Number, 0, Number, 1, LookCall, 0, 3, Call, 0, Call, 1, Times, Return, End},
		{Number, 0, Number, 1, Minus, Number, 0, Number, 1, Divide, Rest, Out, Begin, Number, 1, Out, End},
		{Round, Jump, bodyAt, End}, // a cell on a Round behind a Begin
		{Begin, Round, Jump, bodyAt + 1, End},
		{Jump, bodyAt + 2, End},
		{Number, 0, Number, 1, JumpIf, bodyAt + 10, 5, Number, 7, Return, End},
		{Jump, bodyAt + 4, Jump, bodyAt + 2 + 5, Begin, Jump, bodyAt + 7, End},
	} {
		takes(t, withMain(body...))
	}
}

func TestWrongHeads(t *testing.T) {
	for _, list := range [][]int{
		nil, cells(End), cells(Main, 0), cells(Main), cells(Func, 0, End), cells(Main, 0, End, End), cells(Main, 0, Main, 0, End, End), cells(Main, 5, End), cells(Func, 5, Main, 0, End, End),
		cells(Array, 0, Main, 0, End), cells(Array, 65, Main, 0, End), cells(Array, Main, 0, End), cells(Main, 0, Array, 1, End), cells(Main, 0, End, Array, 1), cells(Array, 1), cells(Array),
		cells(Array, 1, Array, 1, Array, 1, Array, 1, Array, 1, Array, 1, Array, 1, Main, 0, End),
		cells(Main, 0, Func, 0, Func, 0, Func, 0, Func, 0, Func, 0, Func, 0, Func, 0, Func, 0, End, End, End, End, End, End, End, End, End),
		cells(Main, 0, Func, 0, End), cells(Main, 0, End, Func, 0, End), cells(Where, 0, 0, 0, 0, 0, Main, 0, End),
		cells(Main, 1, Where, 6, 0, 0, 0, 0, End), cells(Main, 1, Where, 0, 3, 0, 0, 0, End), cells(Main, 1, Where, 0, 0, 0, 3, 0, End), cells(Main, 1, Where, 0, IsParam, 1, 0, 0, End), cells(Main, 1, Where, 0, 0, 0, IsParam, 1, End),
		cells(Main, 0, Where, 0, IsParam, 0, 0, 0, End), cells(Main, 1, Where, 0, 0, api.MaxNumber+1, 0, 0, End), cells(Main, 1, Where, 0, 0, 0, 0, End), cells(Main, 1, Where),
		slices.Concat(cells(Main, 0), slices.Repeat(cells(Where, 0, 0, 0, 0, 0), 5), cells(End)),
		cells(-1, 0, End), cells(Main, -1, End), cells(End+1, 0, End), cells(Main, 0, End+1), cells(Main, 0, -1), cells(Main, 0, Array, 1, End), cells(Main, 0, Number, 0, Where, 0, 0, 0, 0, 0, End),
	} {
		refuses(t, list)
	}
}

func TestWrongBodies(t *testing.T) {
	for _, body := range [][]Op{
		{}, {Begin}, {Number, 1, End}, {Number}, {Number, -1, Return, End}, {Number, api.MaxNumber + 1, Return, End},
		// Operands that are not there.
		{Variable, api.MaxVars, Return, End}, {Variable, -1, Return, End}, {Number, 1, Set, api.MaxVars, End}, {Number, 1, Set, -1, End},
		{Number, 1, Load, 2, Return, End}, {Number, 1, Load, -1, Return, End}, {Number, 1, Number, 1, Store, 2, End}, {Number, 1, LookLoad, 2, 0, Return, End}, {Number, 1, Number, 1, LookStore, 2, 0, Store, 0, End},
		{Call, 2, Return, End}, {Call, -1, Return, End}, {LookCall, 2, 0, End}, {LookCall, -1, 0, End},
		{LookCall, 1, -1, End}, {LookCall, 1, api.MaxNumber + 1, End}, {Number, 1, LookLoad, 0, -1, Return, End}, {Number, 1, Number, 1, LookStore, 0, -1, Store, 0, End}, {Number, 1, LookDivide, -1, Return, End},
		{Number, 1, Number, 1, JumpIf, bodyAt + 7, 6, End}, {Number, 1, Number, 1, JumpIf, bodyAt + 7, -1, End},
		// Too little on the stack, or too much.
		{Return, End}, {Out, End}, {Set, 0, End}, {Negate, Return, End}, {Load, 0, Return, End}, {Number, 1, Plus, Return, End}, {Number, 1, Minus, Return, End}, {Number, 1, Times, Return, End}, {Number, 1, Divide, Return, End}, {Number, 1, Rest, Return, End},
		{Number, 1, Store, 0, End}, {Number, 1, JumpIf, bodyAt + 5, 0, End}, {JumpIf, bodyAt + 3, 0, End}, {Number, 1, Call, 0, Return, End}, {Call, 0, Return, End},
		{LookLoad, 0, 0, End}, {Number, 1, LookStore, 0, 0, Out, End}, {LookDivide, 0, End}, {Number, 1, LookCall, 0, 0, Out, End},
		{Load, 0, Number, 1, Return, End}, {Negate, Number, 1, Return, End}, {Number, 1, Jump, bodyAt + 5, Return, End},
		{Number, 1, Number, 1, Return, End}, {Number, 1, Number, 1, Out, End}, {Number, 1, Number, 1, Set, 0, End}, {Number, 1, Number, 1, Number, 1, Store, 0, End},
		{Number, 1, Number, 1, Number, 1, JumpIf, bodyAt + 9, 0, End}, {Number, 1, Begin, Out, End}, {Number, 1, Round, Out, End}, {Number, 1, Jump, bodyAt + 4, Return, End}, {Number, 1, End},
		// Outs for which no fuel was taken.
		{Number, 1, Out, Number, 1, Out, End}, {Round, Number, 1, Out, End}, {Number, 1, Set, 0, Number, 1, Out, End}, {Number, 1, Number, 1, JumpIf, bodyAt + 7, 0, Number, 1, Out, End}, {Jump, bodyAt + 2, Number, 1, Out, End},
		// Jumps to where one may not jump.
		{Jump, 0, End}, {Jump, bodyAt - 2, End}, {Jump, bodyAt + 3, End}, {Jump, api.MaxNumber, End}, {Jump, bodyAt, End}, {Jump, bodyAt - 1, End}, {Jump, bodyAt + 1, End}, {Jump, -1, End}, {Jump, math.MaxInt, End},
		{Number, 1, Set, 0, Number, 2, Set, 0, Jump, bodyAt + 4, End}, {Number, 1, Set, 0, Begin, Jump, bodyAt + 4, End}, {Begin, Jump, bodyAt + 4, Begin, Number, 1, Out, End},
		{Jump, bodyAt + 5, Begin, Number, 1, Out, End}, {Jump, bodyAt + 3, Begin, Number, 1, Out, End}, {Jump, bodyAt + 4, Number, 1, Return, End}, {Jump, bodyAt + 3, Number, 1, Return, End},
		{Number, 1, Number, 1, JumpIf, bodyAt, 0, End}, {Number, 1, Number, 1, JumpIf, bodyAt + 5, 0, End},
	} {
		refuses(t, withMain(body...))
	}
	refuses(t, cells(Main, 0, Number, 1, Out, End))
	refuses(t, cells(Func, 0, Main, 0, Begin, End, Number, 1, Out, End))
	// One jumps to no other body.
	takes(t, cells(Main, 0, Func, 0, Jump, 6, End, Jump, 9, End))
	refuses(t, cells(Main, 0, Func, 0, Jump, 7, End, Jump, 9, End))
	refuses(t, cells(Main, 0, Func, 0, Round, End, Jump, 4, End))
	// How much is asked for hangs on the function, also on one that stands behind.
	takes(t, cells(Main, 0, Func, 3, Number, 1, Number, 2, Number, 3, Call, 1, Return, End, End))
	refuses(t, cells(Main, 0, Func, 2, Number, 1, Number, 2, Number, 3, Call, 1, Return, End, End))
	refuses(t, cells(Main, 0, Number, 1, Load, 0, Return, End))
}

func TestWhatACodeSays(t *testing.T) {
	c, _ := FromCells(cells(Array, 3, Array, 9, Func, 2, Where, Op(AtMost), IsParam, 1, IsNegative, 8, Main, 1, End, Number, 5, Return, End))
	if c == nil || !slices.Equal(c.Arrays, []int{3, 9}) || len(c.Funcs) != 2 || c.Main != 1 || c.Cell(0) != int(Array) || c.Cell(1) != 3 {
		t.Fatalf("P14: %+v", c)
	}
	f, main := c.Funcs[0], c.Funcs[1]
	where := Condition{AtMost, Side{IsParam, 1}, Side{IsNegative, 8}}
	if f.Params != 2 || f.Start != 14 || !slices.Equal(f.Wheres, []Condition{where}) || main.Params != 1 || main.Start != 15 || len(main.Wheres) != 0 {
		t.Errorf("P14: %+v", c)
	}
}

func TestBytes(t *testing.T) {
	for _, c := range []struct {
		number int
		bytes  string
	}{
		{0, "\x00"}, {1, "\x01"}, {127, "\x7f"}, {128, "\x80\x01"}, {129, "\x81\x01"}, {255, "\xff\x01"}, {16383, "\xff\x7f"}, {16384, "\x80\x80\x01"}, {1 << 21, "\x80\x80\x80\x01"}, {1 << 28, "\x80\x80\x80\x80\x01"}, {api.MaxNumber, "\xff\x93\xeb\xdc\x03"},
	} {
		list := cells(Main, 0, Number, Op(c.number), Return, End)
		code, ok := FromCells(list)
		if !ok {
			t.Fatalf("P14: %v is no code", list)
		}
		want := string([]byte{byte(Main), 0, byte(Number)}) + c.bytes + string([]byte{byte(Return), byte(End)})
		if got := code.Bytes(); got != want {
			t.Errorf("P13: bytes of %v: %q, want %q", list, got, want)
		}
		if again, ok := FromBytes(want); !ok || !slices.Equal(again.cells, list) || again.Bytes() != want {
			t.Errorf("P13: %q of %v", want, list)
		}
	}
}

func TestBytesThatAreNoCells(t *testing.T) {
	head, tail := string([]byte{byte(Main), 0, byte(Number)}), string([]byte{byte(Return), byte(End)})
	for _, number := range []string{
		// The same number in more bytes than it takes.
		"\x80\x00", "\x81\x00", "\xff\x00", "\x80\x80\x00", "\x80\x81\x00", "\x81\x80\x80\x80\x00",
		// Numbers that are too great, or would be cut to 32 or 64 bits.
		"\x80\x94\xeb\xdc\x03", "\xff\xff\xff\xff\x03", "\x80\x80\x80\x80\x04", "\x81\x80\x80\x80\x10", "\xff\xff\xff\xff\x7f", "\x81\x80\x80\x80\x80\x01", "\x81\x80\x80\x80\x80\x00",
		strings.Repeat("\x80", 9) + "\x02", strings.Repeat("\x80", 10) + "\x01", "\x81" + strings.Repeat("\x80", 100) + "\x01", strings.Repeat("\xff", 9) + "\x01",
	} {
		if c, ok := FromBytes(head + number + tail); ok {
			t.Errorf("P14: %q is read as %v", number, c.cells)
		}
	}
	for _, bytes := range []string{"", "\x80", head, head + "\x01", head + "\x80", head + "\x01" + tail[:1], head + "\x01" + tail + "\x80", head + "\x01" + tail + tail[1:]} {
		if c, ok := FromBytes(bytes); ok || c != nil {
			t.Errorf("P14: %q is read", bytes)
		}
	}
}

func TestMostBytes(t *testing.T) {
	for _, more := range []int{0, 1} {
		list := slices.Concat(cells(Main, 0), slices.Repeat(cells(Begin), api.MaxCode-3+more), cells(End))
		c, ok := FromCells(list)
		if !ok {
			t.Fatalf("P14: a list of %d cells is no code", len(list))
		}
		bytes := c.Bytes()
		if again, ok := FromBytes(bytes); ok != (more == 0) || ok && again.Bytes() != bytes {
			t.Errorf("P14: %d bytes: %v", len(bytes), ok)
		}
	}
}

func TestComparisons(t *testing.T) {
	for _, c := range []struct {
		is                  Comparison
		below, same, beyond bool
	}{
		{Less, true, false, false}, {AtMost, true, true, false}, {Greater, false, false, true}, {AtLeast, false, true, true}, {Equal, false, true, false}, {Unequal, true, false, true},
	} {
		for _, pair := range [][2]int64{{math.MinInt64, math.MaxInt64}, {-1, 0}, {3, 4}} {
			a, b := pair[0], pair[1]
			if c.is.Holds(a, b) != c.below || c.is.Holds(a, a) != c.same || c.is.Holds(b, a) != c.beyond {
				t.Errorf("P12: comparison %d of %d and %d", c.is, a, b)
			}
			if c.is.Opposite().Holds(a, b) == c.below || c.is.Opposite().Holds(a, a) == c.same || c.is.Opposite().Holds(b, a) == c.beyond {
				t.Errorf("P12: the opposite of comparison %d of %d and %d", c.is, a, b)
			}
		}
	}
}

func TestTakes(t *testing.T) {
	f := Function{Params: 2, Wheres: []Condition{{Less, Side{IsParam, 0}, Side{IsParam, 1}}, {AtLeast, Side{IsNumber, 9}, Side{IsParam, 1}}, {Unequal, Side{IsNegative, 3}, Side{IsParam, 0}}}}
	for _, c := range []struct {
		x, y int64
		want bool
	}{
		{1, 2, true}, {2, 2, false}, {8, 9, true}, {8, 10, false}, {-3, 1, false}, {-4, 1, true}, {3, 5, true}, {math.MinInt64, 9, true}, {math.MaxInt64, math.MinInt64, false},
	} {
		if got := f.Takes([]int64{c.x, c.y}); got != c.want {
			t.Errorf("P12: %d, %d: %v", c.x, c.y, got)
		}
	}
	if none := (&Function{}); !none.Takes(nil) {
		t.Errorf("P12: a function without conditions takes nothing")
	}
}
