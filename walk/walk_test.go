package walk

import (
	"math"
	"slices"
	"testing"

	"surefoot/api"
	"surefoot/grammar"
	"surefoot/names"
	"surefoot/sites"
	"surefoot/tree"
	"surefoot/words"
)

const (
	least = math.MinInt64
	most  = math.MaxInt64
)

// checks runs a program with fuel to spare.
func checks(t *testing.T, text string, args []int64, want api.Result) {
	t.Helper()
	checksWith(t, text, args, 5000, want)
}

func read(t *testing.T, text string) *tree.Program {
	t.Helper()
	list, fault := words.Cut(text)
	if fault != (api.Fault{}) {
		t.Fatalf("Cut(%q): %+v", text, fault)
	}
	program, fault := grammar.Parse(list)
	if fault != (api.Fault{}) {
		t.Fatalf("Parse(%q): %+v", text, fault)
	}
	if fault = names.Resolve(program, len(text)); fault != (api.Fault{}) {
		t.Fatalf("Resolve(%q): %+v", text, fault)
	}
	sites.Number(program)
	return program
}

func checksWith(t *testing.T, text string, args []int64, fuel int, want api.Result) {
	t.Helper()
	got := Run(read(t, text), args, fuel)
	if got.End != want.End || got.Value != want.Value || got.Site != want.Site || !slices.Equal(got.Outs, want.Outs) {
		t.Errorf("P7: %q, %v, %d: %+v, want %+v", text, args, fuel, got, want)
	}
}

func done(value int64, outs ...int64) api.Result {
	return api.Result{End: api.Done, Value: value, Site: api.None, Outs: outs}
}

func trap(site int, outs ...int64) api.Result {
	return api.Result{End: api.Trap, Site: site, Outs: outs}
}

func ended(end int, outs ...int64) api.Result {
	return api.Result{End: end, Site: api.None, Outs: outs}
}

func TestNumbersWrap(t *testing.T) {
	for _, c := range []struct {
		expr       string
		x, y, want int64
	}{
		{"x+y", most, 1, least}, {"x+y", least, -1, most}, {"x+y", most, most, -2}, {"x-y", least, 1, most}, {"x-y", 0, least, least},
		{"x*y", most, 2, -2}, {"x*y", 1 << 32, 1 << 32, 0}, {"x*y", least, -1, least}, {"x*y", 3037000500, 3037000500, -9223372036709301616},
		{"-x", least, 0, least}, {"-x", most, 0, least + 1}, {"--x", least, 0, least}, {"-x", 0, 0, 0},
		{"x/y", least, -1, least}, {"x%y", least, -1, 0}, {"x/y", least, 1, least}, {"x/y", most, -1, least + 1}, {"x%y", most, least, most}, {"x/y", most, least, 0}, {"x/y", least, least, 1},
		{"x*x*x+y", 999999999, 5, 8515845249265065476},
	} {
		checks(t, "fn main(x,y){return "+c.expr+";}", []int64{c.x, c.y}, done(c.want))
	}
}

func TestDivisionCutsTowardsNought(t *testing.T) {
	for _, c := range []struct{ x, y, quotient, rest int64 }{
		{7, 2, 3, 1}, {-7, 2, -3, -1}, {7, -2, -3, 1}, {-7, -2, 3, -1}, {1, 2, 0, 1}, {-1, 2, 0, -1}, {0, 5, 0, 0}, {6, 3, 2, 0}, {-6, 3, -2, 0},
	} {
		checks(t, "fn main(x,y){out x/y;return x%y;}", []int64{c.x, c.y}, done(c.rest, c.quotient))
	}
}

func TestOperatorsBindAsTheGrammarSays(t *testing.T) {
	for _, c := range []struct {
		expr string
		want int64
	}{
		{"10-3-2", 5}, {"10-(3-2)", 9}, {"2+3*4", 14}, {"(2+3)*4", 20}, {"100/7/2", 7}, {"100/(7/2)", 33}, {"7*3/2", 10}, {"7/2*3", 9}, {"17%5*3", 6}, {"-3*2-1", -7}, {"-(3-5)", 2}, {"1--1", 2}, {"5%-3", 2}, {"((4))", 4},
	} {
		checks(t, "fn main(){return "+c.expr+";}", nil, done(c.want))
	}
}

func TestComparisons(t *testing.T) {
	for _, c := range []struct {
		op                  string
		below, same, beyond int64
	}{
		{"<", 1, 0, 0}, {"<=", 1, 1, 0}, {">", 0, 0, 1}, {">=", 0, 1, 1}, {"==", 0, 1, 0}, {"!=", 1, 0, 1},
	} {
		for _, text := range []string{
			"fn main(x,y){if x" + c.op + "y{return 1;}}",
			"fn main(x,y){let r=0;if x" + c.op + "y{r=1;}else{r=0;}return r;}",
			"fn main(x,y){let r=0;while x" + c.op + "y{return 1;}}",
			"fn main(x,y){if 1>2||1<2&&x" + c.op + "y{return 1;}return 0;}",
		} {
			checks(t, text, []int64{least, most}, done(c.below))
			checks(t, text, []int64{-1, 0}, done(c.below))
			checks(t, text, []int64{5, 5}, done(c.same))
			checks(t, text, []int64{least, least}, done(c.same))
			checks(t, text, []int64{0, -1}, done(c.beyond))
			checks(t, text, []int64{most, least}, done(c.beyond))
		}
	}
}

// TestRightSideIsWorkedOnlyIfNeeded has a function on each side that tells that it was called.
func TestRightSideIsWorkedOnlyIfNeeded(t *testing.T) {
	for _, c := range []struct {
		cond string
		want int64
		outs []int64
	}{
		{"f(1)==1&&f(2)==2", 1, []int64{1, 2}}, {"f(1)==0&&f(2)==2", 0, []int64{1}}, {"f(1)==1&&f(2)==0", 0, []int64{1, 2}},
		{"f(1)==1||f(2)==2", 1, []int64{1}}, {"f(1)==0||f(2)==2", 1, []int64{1, 2}}, {"f(1)==0||f(2)==0", 0, []int64{1, 2}},
		{"f(1)==1||f(2)==2&&f(3)==3", 1, []int64{1}}, {"f(1)==0&&f(2)==2||f(3)==3", 1, []int64{1, 3}}, {"f(1)==1&&f(2)==0||f(3)==0", 0, []int64{1, 2, 3}}, {"f(1)==0||f(2)==2||f(3)==3", 1, []int64{1, 2}}, {"f(1)<f(2)&&f(4)>f(3)", 1, []int64{1, 2, 4, 3}},
	} {
		checks(t, "fn f(x){out x;return x;}fn main(){if "+c.cond+"{return 1;}}", nil, done(c.want, c.outs...))
	}
	checks(t, "fn main(x){if x==0||1/x==9{return 1;}}", []int64{0}, done(1))
	checks(t, "fn main(x){if x!=0&&1/x==9{return 1;}}", []int64{0}, done(0))
	checks(t, "fn main(x){if x==0&&1/x==9{return 1;}}", []int64{0}, trap(0))
}

func TestFromLeftToRight(t *testing.T) {
	f := "arr a 9;fn f(x){out x;return x;}fn main(){"
	checks(t, f+"return f(1)-f(2)*f(3)+f(4);}", nil, done(-1, 1, 2, 3, 4))
	checks(t, f+"a[f(1)]=f(2);return a[f(1)]+f(3);}", nil, done(5, 1, 2, 1, 3))
	checks(t, f+"return g(f(1),f(2),f(3));}fn g(x,y,z){out 9;return z;}", nil, done(3, 1, 2, 3, 9))
	checks(t, f+"return f(f(1)+f(2));}", nil, done(3, 1, 2, 3))
	checks(t, "arr a 1;fn f(){a[0]=a[0]+1;return a[0];}fn main(){return a[0]+f()*10+a[0]*100+f()*1000;}", nil, done(2110))
}

func TestVariablesAndArraysBeginWithNought(t *testing.T) {
	checks(t, "fn main(n){if n>0{let x=5;}return x;}", []int64{0}, done(0))
	checks(t, "fn main(n){if n>0{let x=5;}return x;}", []int64{1}, done(5))
	checks(t, "fn main(){let i=0;while i<3{out x();if i==1{let y=7;}out y;i=i+1;}}fn x(){if 1>2{let z=1;}z=z+1;return z;}", nil, done(0, 1, 0, 1, 7, 1, 7))
	checks(t, "arr a 64;arr b 1;fn main(){return a[0]+a[63]+b[0];}", nil, done(0))
	checks(t, "fn main(){}", nil, done(0))
	checks(t, "fn f(){out 1;}fn main(){return f()+1;}", nil, done(1, 1))
	checks(t, "fn main(){if 1<2{return 5;}return 6;}", nil, done(5))
	checks(t, "fn main(){while 1<2{while 1<2{return 5;}}return 6;}", nil, done(5))
}

func TestWhoseVariablesAndArraysAre(t *testing.T) {
	checks(t, "fn f(x){let y=x;x=9;if y>0{out f(y-1);}return y;}fn main(x){return f(x)*10+x;}", []int64{2}, done(22, 0, 1))
	checks(t, "arr a 3;arr b 3;fn f(x){a[x]=a[x]+1;b[x]=-1;return a[0];}fn main(){a[1]=5;out f(1);out f(0);out a[1];return b[0]+b[1]+b[2];}", nil, done(-2, 0, 1, 6))
	checks(t, "arr f 1;fn main(main){let f=main;f[0]=f;main=f[0]+1;return main;}", []int64{6}, done(7))
	checks(t, "fn main(a,b,c,d){return f(d,c,b,a);}fn f(a,b,c,d){return a*1000+b*100+c*10+d;}", []int64{1, 2, 3, 4}, done(4321))
}

func TestEachKindOfSite(t *testing.T) {
	loads := "arr a 3;fn main(i){out 7;return a[i]+1;}"
	stores := "arr a 3;fn main(i){out 7;a[i]=5;return 1;}"
	for _, i := range []int64{0, 1, 2} {
		checks(t, loads, []int64{i}, done(1, 7))
		checks(t, stores, []int64{i}, done(1, 7))
	}
	for _, i := range []int64{least, -1, 3, 4, 64, 1 << 32, most} {
		checks(t, loads, []int64{i}, trap(0, 7))
		checks(t, stores, []int64{i}, trap(0, 7))
	}
	checks(t, "arr a 64;arr b 1;fn main(i){b[0]=a[63];return a[64];}", []int64{0}, trap(2))
	checks(t, "arr a 64;arr b 1;fn main(i){return b[1];}", []int64{0}, trap(0))
	for _, op := range []string{"/", "%"} {
		text := "fn main(x,y){out 7;out x" + op + "y;out 8;}"
		checks(t, text, []int64{0, 0}, trap(0, 7))
		checks(t, text, []int64{least, 0}, trap(0, 7))
		checks(t, text, []int64{0, 1}, done(0, 7, 0, 8))
	}
	calls := "fn f(x,y)where x<y,y!=5,-2<=x{out x;return y;}fn main(x,y){out 7;return f(x,y);}"
	checks(t, calls, []int64{-2, 4}, done(4, 7, -2))
	checks(t, calls, []int64{4, 4}, trap(0, 7))
	checks(t, calls, []int64{4, 5}, trap(0, 7))
	checks(t, calls, []int64{-3, 4}, trap(0, 7))
	checks(t, "fn f()where 1>2{}fn main(){out f();}", nil, trap(0))
}

// TestOrderOfLooks has more than one fault in a statement: the first that is looked at counts.
func TestOrderOfLooks(t *testing.T) {
	store := "arr a 3;fn main(i,j,d){a[i/d]=a[j];}" // sites: 0 the store, 1 the division, 2 the load
	checks(t, store, []int64{9, 9, 0}, trap(1))
	checks(t, store, []int64{9, 9, 1}, trap(2))
	checks(t, store, []int64{9, 2, 1}, trap(0))
	checks(t, store, []int64{2, 2, 1}, done(0))
	call := "fn f(x,y)where x<y{out x;return x;}fn main(x,y,d){return f(f(x,y),x/d);}" // sites: 0 and 1 the calls, 2 the division
	checks(t, call, []int64{2, 1, 0}, trap(1))
	checks(t, call, []int64{1, 2, 0}, trap(2, 1))
	checks(t, call, []int64{1, 2, 1}, trap(0, 1))
	checks(t, call, []int64{-9, 2, 3}, done(-9, -9, -9))
	divide := "arr a 1;fn main(i,d){return a[i]/(1/d)%(d-1);}" // sites: 0 the load, 1 and 2 the quotients, 3 the rest
	checks(t, divide, []int64{1, 0}, trap(0))
	checks(t, divide, []int64{0, 0}, trap(2))
	checks(t, divide, []int64{0, 2}, trap(1))
	checks(t, divide, []int64{0, 1}, trap(3))
	checks(t, "arr a 1;fn main(i){if a[i]<1/i{}}", []int64{0}, trap(1))
	checks(t, "arr a 1;fn main(i){while a[i]<1/(i-1){}}", []int64{1}, trap(0))
}

// TestNothingIsToldBehindTheEnd has outs, calls, stores and loops in what is left of a run that is over.
func TestNothingIsToldBehindTheEnd(t *testing.T) {
	rest := "+f(2)*a[9]/0;out 3;while 1<2{out 4;}return f(5);}fn f(x){out x;return x;}fn g(x)where x>0{out x;return x;}"
	checks(t, "arr a 1;fn main(){out f(1)+a[1]"+rest, nil, trap(0, 1))
	checks(t, "arr a 1;fn main(){out f(1)+1/a[0]"+rest, nil, trap(0, 1))
	checks(t, "arr a 1;fn main(){out f(1)+g(0)"+rest, nil, trap(0, 1))
	checks(t, "arr a 1;fn main(){out f(1)+main()"+rest, nil, ended(api.Deep, slices.Repeat([]int64{1}, api.MaxCalls-1)...))
	checksWith(t, "arr a 1;fn main(){out f(1)"+rest, nil, 3, ended(api.Spent))
	checksWith(t, "arr a 1;fn main(){out f(1)"+rest, nil, 4, ended(api.Spent, 1))
	checks(t, "fn f(){out 1/0;out 2;return 3;}fn main(){if f()==0{out 4;}else{out 5;}while f()==0{out 6;}}", nil, trap(0))
}

func TestMainThatRefuses(t *testing.T) {
	text := "fn main(x,y)where x<y,y<=9,0!=x,-3<x{out 1;return y;}"
	checks(t, text, []int64{1, 9}, done(9, 1))
	checks(t, text, []int64{-2, -1}, done(-1, 1))
	for _, args := range [][]int64{{9, 9}, {1, 10}, {0, 5}, {-3, 5}, {most, least}, nil, {1}, {1, 9, 0}} {
		checks(t, text, args, ended(api.Refused))
	}
	checksWith(t, text, []int64{0, 5}, 0, ended(api.Refused))
	checks(t, "fn main()where 1<1{}", nil, ended(api.Refused))
	// A main that is called by itself traps instead.
	checks(t, "fn main(x)where x>0{out x;return main(x-1);}", []int64{2}, trap(0, 2, 1))
}

func TestCallsThatRun(t *testing.T) {
	text := "fn f(n){if n>1{return f(n-1)+1;}return 1;}fn main(n){return f(n);}"
	checks(t, text, []int64{api.MaxCalls - 1}, done(api.MaxCalls-1))
	checks(t, text, []int64{api.MaxCalls}, ended(api.Deep))
	// They count no more when they are over.
	checks(t, "fn f(n){if n>1{return f(n-1)+1;}return 1;}fn main(n){out f(n);out f(n);return f(n)+f(n);}", []int64{59}, done(118, 59, 59))
	checks(t, "fn f(){}fn main(n){while n>0{n=n-1+f()*f();}return 3;}", []int64{100}, done(3))
}

// TestLookedThenCountedThenFuel has the 61st call as one that main does not take, and one without fuel.
func TestLookedThenCountedThenFuel(t *testing.T) {
	text := "fn main(n)where n>0{return main(n-1);}"
	checksWith(t, text, []int64{60}, 120, trap(0))
	checksWith(t, text, []int64{61}, 120, ended(api.Deep))
	checksWith(t, text, []int64{61}, 119, ended(api.Spent))
	checksWith(t, text, []int64{1}, 2, trap(0))
	checksWith(t, text, []int64{2}, 2, ended(api.Spent))
	checksWith(t, text, []int64{1}, 1, ended(api.Spent))
}

func TestWhatTakesFuel(t *testing.T) {
	for _, c := range []struct {
		text string
		need int
	}{
		{"fn main(){}", 1},
		{"fn main(){let x=1;}", 2},
		{"arr a 1;fn main(){let x=1+2*3;x=x;a[0]=x;out x;return x;}", 6},
		{"fn main(){return 1;out 2;}", 2},
		{"fn main(){if 1<2{}}", 2},
		{"fn main(){if 1>2{out 1;out 2;}else{out 3;}}", 3},
		{"fn main(){if 1>2&&1>2||1>2{}else{}}", 2},
		{"fn main(){while 1>2{out 1;}}", 3},
		{"fn main(){let x=0;while x<2{x=x+1;}}", 1 + 1 + 1 + 3 + 2},
		{"fn main(){while 1<2{return 1;}}", 4},
		{"fn f(){}fn main(){out f();}", 3},
		{"fn f(x){return x;}fn main(){return f(f(1))+f(2);}", 2 + 6},
		{"fn f(x){return x;}fn main(){if f(1)<0&&f(2)<f(3){}}", 2 + 2},
		{"fn f(x)where x<x{}fn main(){out f(f(1));}", 2},
	} {
		program := read(t, c.text)
		for fuel := range c.need + 5 {
			if got := Run(program, nil, fuel); (got.End == api.Spent) != (fuel < c.need) {
				t.Errorf("P7: %q with fuel %d: %+v, but it needs %d", c.text, fuel, got, c.need)
			}
		}
	}
}
