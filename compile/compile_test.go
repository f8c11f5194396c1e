package compile

import (
	"slices"
	"testing"

	"surefoot/api"
	. "surefoot/code"
	"surefoot/grammar"
	"surefoot/names"
	"surefoot/sites"
	"surefoot/sure"
	"surefoot/tree"
	"surefoot/words"
)

func read(t *testing.T, text string) *tree.Program {
	t.Helper()
	list, fault := words.Cut(text)
	if fault != (api.Fault{}) {
		t.Fatalf("Cut(%q): %+v", text, fault)
	}
	program, fault := grammar.Parse(list)
	if fault != (api.Fault{}) {
		t.Fatalf("Parse(%q): %+v", text, fault)
	}
	if fault = names.Resolve(program, len(text)); fault != (api.Fault{}) {
		t.Fatalf("Resolve(%q): %+v", text, fault)
	}
	sites.Number(program)
	return program
}

// compiles wants these kinds and numbers as the cells.
func compiles(t *testing.T, text string, want ...Op) {
	t.Helper()
	program := read(t, text)
	made := Translate(program, sure.Sites(program))
	if made == nil {
		t.Fatalf("P12: %q has no code", text)
	}
	var bytes []byte
	for _, part := range want {
		for part > 127 {
			bytes = append(bytes, byte(part&127|128))
			part >>= 7
		}
		bytes = append(bytes, byte(part))
	}
	if got := made.Bytes(); got != string(bytes) {
		t.Errorf("P12: code of %q: %v, want %v", text, []byte(got), bytes)
	}
}

func TestHeads(t *testing.T) {
	compiles(t, "fn main(){}", Main, 0, End)
	compiles(t, "fn main(a,b,c,d){}", Main, 4, End)
	compiles(t, "arr a 64;fn f(x){}arr b 1;fn main(){}fn g(){}", Array, 64, Array, 1, Func, 1, Main, 0, Func, 0, End, End, End)
	compiles(t, "fn main(x,y)where x<y,-3<=x,2>-0,y>=-999999999{}", Main, 2,
		Where, Op(Less), IsParam, 0, IsParam, 1, Where, Op(AtMost), IsNegative, 3, IsParam, 0, Where, Op(Greater), IsNumber, 2, IsNumber, 0, Where, Op(AtLeast), IsParam, 1, IsNegative, 999999999, End)
	compiles(t, "fn main()where 1==2,3!=4{}", Main, 0, Where, Op(Equal), IsNumber, 1, IsNumber, 2, Where, Op(Unequal), IsNumber, 3, IsNumber, 4, End)
}

func TestStatements(t *testing.T) {
	compiles(t, "fn main(x){let y=x;x=999999999;out y;return 3;}", Main, 1,
		Begin, Variable, 0, Set, 1, Begin, Number, 999999999, Set, 0, Begin, Variable, 1, Out, Begin, Number, 3, Return, End)
	compiles(t, "fn main(x,y){out -(x+y)-x*y;}", Main, 2, Begin, Variable, 0, Variable, 1, Plus, Negate, Variable, 0, Variable, 1, Times, Minus, Out, End)
	compiles(t, "arr a 2;arr b 3;fn main(x){b[1]=a[0];return g(x,f());}fn f(){}fn g(x,y){}", Array, 2, Array, 3, Main, 1, Func, 0, Func, 2,
		Begin, Number, 1, Number, 0, Load, 0, Store, 1, Begin, Variable, 0, Call, 1, Call, 2, Return, End, End, End)
}

func TestConditions(t *testing.T) {
	compiles(t, "fn main(){if 1<2{out 3;}}", Main, 0, Begin, Number, 1, Number, 2, JumpIf, 14, Op(AtLeast), Begin, Number, 3, Out, End)
	compiles(t, "fn main(){if 1<2{out 3;}else{out 4;}}", Main, 0, Begin, Number, 1, Number, 2, JumpIf, 16, Op(AtLeast), Begin, Number, 3, Out, Jump, 20, Begin, Number, 4, Out, End)
	compiles(t, "fn main(){if 1<2{}else{}}", Main, 0, Begin, Number, 1, Number, 2, JumpIf, 10, Op(AtLeast), End)
	compiles(t, "fn main(){while 1==2{out 3;}}", Main, 0, Begin, Round, Number, 1, Number, 2, JumpIf, 17, Op(Unequal), Begin, Number, 3, Out, Jump, 3, End)
	compiles(t, "fn main(){if 1<2&&3<=4{out 5;}}", Main, 0, Begin, Number, 1, Number, 2, JumpIf, 21, Op(AtLeast), Number, 3, Number, 4, JumpIf, 21, Op(Greater), Begin, Number, 5, Out, End)
	compiles(t, "fn main(){if 1>2||3!=4{out 5;}}", Main, 0, Begin, Number, 1, Number, 2, JumpIf, 17, Op(Greater), Number, 3, Number, 4, JumpIf, 21, Op(Equal), Begin, Number, 5, Out, End)
	compiles(t, "fn main(){if 1>2&&3>4||5>6{out 7;}}", Main, 0, Begin, Number, 1, Number, 2, JumpIf, 17, Op(AtMost), Number, 3, Number, 4, JumpIf, 24, Op(Greater),
		Number, 5, Number, 6, JumpIf, 28, Op(AtMost), Begin, Number, 7, Out, End)
}

// TestLooks has each kind of site, where it is not sure and where it is.
func TestLooks(t *testing.T) {
	compiles(t, "arr a 9;fn main(x){out a[x];out a[8];}", Array, 9, Main, 1, Begin, Variable, 0, LookLoad, 0, 0, Load, 0, Out, Begin, Number, 8, Load, 0, Out, End)
	compiles(t, "arr a 9;fn main(x){a[8]=x;a[x]=2;}", Array, 9, Main, 1, Begin, Number, 8, Variable, 0, Store, 0, Begin, Variable, 0, Number, 2, LookStore, 0, 1, Store, 0, End)
	compiles(t, "fn main(x){out 1/x;out 1/2;out 1%2;out 1%x;}", Main, 1, Begin, Number, 1, Variable, 0, LookDivide, 0, Divide, Out, Begin, Number, 1, Number, 2, Divide, Out,
		Begin, Number, 1, Number, 2, Rest, Out, Begin, Number, 1, Variable, 0, LookDivide, 3, Rest, Out, End)
	compiles(t, "fn f(x)where x<3{}fn main(x){out f(x);out f(2);out main(x);}", Func, 1, Where, Op(Less), IsParam, 0, IsNumber, 3, Main, 1, End,
		Begin, Variable, 0, LookCall, 0, 0, Call, 0, Out, Begin, Number, 2, Call, 0, Out, Begin, Variable, 0, Call, 1, Out, End)
	compiles(t, "fn main(x){return 1;return 1/x;}", Main, 1, Begin, Number, 1, Return, Begin, Number, 1, Variable, 0, Divide, Return, End)
}

func TestPutTakesAnyNumberOfOperands(t *testing.T) {
	var operands []int
	for n := range 9 {
		translator := translator{cells: []int{7, 8}}
		if at := translator.put(Where, operands...); at != 2 || !slices.Equal(translator.cells, slices.Concat([]int{7, 8, int(Where)}, operands)) {
			t.Errorf("P12: %d operands: %d, %v", n, at, translator.cells)
		}
		operands = append(operands, n+100)
	}
}
