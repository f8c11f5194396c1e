package surefoot

import (
	"maps"
	"math"
	"math/rand"
	"slices"
	"strconv"
	"strings"
	"sync"
	"testing"

	"surefoot/api"
	"surefoot/code"
)

// codesOf gives the code of a program, and the one that is loaded from its bytes.
func codesOf(t *testing.T, p *Program) [2]*Code {
	t.Helper()
	compiled := p.Compile()
	if compiled == nil {
		t.Fatalf("P12: Compile of %q gives nothing", p.Print())
	}
	bytes := compiled.Bytes()
	loaded, fault := Load(bytes)
	if loaded == nil || fault != api.OK || loaded.Bytes() != bytes || len(bytes) == 0 || len(bytes) > api.MaxCode {
		t.Fatalf("P13: Load of the %d bytes of %q: %v, %d", len(bytes), p.Print(), loaded != nil, fault)
	}
	return [2]*Code{compiled, loaded}
}

// runs wants this result of the code of a program.
func runs(t *testing.T, p *Program, args []int64, fuel int, want api.Result) {
	t.Helper()
	for i, c := range codesOf(t, p) {
		if got := c.Run(args, fuel); !sameResult(got, want) {
			t.Fatalf("P%d: Run of %q, %v, %d: %+v, want %+v", 12+i, p.Print(), args, fuel, got, want)
		}
	}
}

// operands tells how many cells stand behind an instruction.
func operands(op code.Op) int {
	switch op {
	case code.Where:
		return 5
	case code.LookLoad, code.LookStore, code.LookCall, code.JumpIf:
		return 2
	case code.Array, code.Func, code.Main, code.Number, code.Variable, code.Load, code.Call, code.LookDivide, code.Set, code.Store, code.Jump:
		return 1
	}
	return 0
}

// oracleCells takes bytes apart with numbers as long as they are.
func oracleCells(bytes string) []int {
	var cells []int
	for at := 0; at < len(bytes); at++ {
		cell, unit := 0, 1
		for ; bytes[at] >= 128; at++ {
			cell += int(bytes[at]-128) * unit
			unit *= 128
		}
		cells = append(cells, cell+int(bytes[at])*unit)
	}
	return cells
}

// looks tells how often a code looks at each site.
func looks(bytes string) map[int]int {
	cells := oracleCells(bytes)
	sites := map[int]int{}
	for at := 0; at < len(cells); {
		op := code.Op(cells[at])
		at += 1 + operands(op)
		switch op {
		case code.LookLoad, code.LookStore, code.LookDivide, code.LookCall:
			sites[cells[at-1]]++
		}
	}
	return sites
}

func checkLooks(t *testing.T, text string) {
	t.Helper()
	p := mustRead(t, text)
	want := map[int]int{}
	for i, site := range p.Sites() {
		if !site.Sure {
			want[i] = 1
		}
	}
	if got := looks(p.Compile().Bytes()); !maps.Equal(got, want) {
		t.Fatalf("P12: the code of %q looks at %v, but sure are all but %v", text, got, want)
	}
}

func TestLooksAtWhatIsNotSure(t *testing.T) {
	for _, text := range []string{
		"fn main(){}", tableText, halfText, deepText, strings.Replace(tableText, "i < 10", "i < n", 1),
		"arr a 9;fn main(n){a[n]=1;a[8]=1;return a[n]+a[8];}", "fn main(n){return 1/n+1/2+1%n+1%2+n/-1;}", "fn f(x)where x<5{}fn main(n){out f(n);out f(4);out f(5);}",
		"fn f(x){}fn main(n){return f(n);}", "fn main(n){return 1;out 1/n;}", "arr a 9;fn main(n){while n<9{if n>=0&&a[n]<1||a[n]==2{out a[n];}n=n+1;}a[a[n]]=a[a[0]];}",
	} {
		checkLooks(t, text)
	}
	m := liveMaker{rand: rand.New(rand.NewSource(11))}
	for range 1500 {
		checkLooks(t, m.program())
	}
}

func TestRunOfTheExamples(t *testing.T) {
	runs(t, mustRead(t, tableText), []int64{2}, api.MaxFuel, done(90))
	half := mustRead(t, halfText)
	runs(t, half, []int64{3}, api.MaxFuel, done(3))
	runs(t, half, []int64{0}, api.MaxFuel, trap(2))
	runs(t, half, []int64{-2}, api.MaxFuel, done(0))
	deep := mustRead(t, deepText)
	for _, fuel := range []int{120, 121, api.MaxFuel, math.MaxInt} {
		runs(t, deep, nil, fuel, ended(api.Deep))
	}
	for _, fuel := range []int{119, 1, 0, -1, math.MinInt} {
		runs(t, deep, nil, fuel, ended(api.Spent))
	}
}

func TestRunOfEachKindOfSite(t *testing.T) {
	edges := []int64{math.MinInt64, -64, -3, -2, -1, 0, 1, 2, 3, 4, 5, 63, 64, 1 << 32, math.MaxInt64}
	for _, c := range []struct {
		text, sites string
		passes      func(n int64) bool
		gives       func(n int64) int64
	}{
		{"arr b 64;arr a 3;fn main(n){out 7;return a[n]+1;}", "l", func(n int64) bool { return n >= 0 && n < 3 }, func(int64) int64 { return 1 }},
		{"arr b 64;arr a 3;fn main(n){out 7;a[n]=n+1;return 1;}", "s", func(n int64) bool { return n >= 0 && n < 3 }, func(int64) int64 { return 1 }},
		{"fn main(n){out 7;return 5/n;}", "d", func(n int64) bool { return n != 0 }, func(n int64) int64 { return 5 / n }},
		{"fn main(n){out 7;return 5%n;}", "d", func(n int64) bool { return n != 0 }, func(n int64) int64 { return 5 % n }},
		{"fn f(x)where x<3,x!=-2{return x;}fn main(n){out 7;return f(n);}", "c", func(n int64) bool { return n < 3 && n != -2 }, func(n int64) int64 { return n }},
		{"arr a 3;fn main(n){out 7;if n<0||n>2{n=1;}a[n]=5;return a[n];}", "SL", func(int64) bool { return true }, func(int64) int64 { return 5 }},
		{"fn main(n){out 7;if n<=0{n=1;}return 5/n+5%n;}", "DD", func(int64) bool { return true }, func(n int64) int64 { n = max(n, 1); return 5/n + 5%n }},
		{"fn f(x)where x<3,-5<=x{return x;}fn main(n){out 7;return f(n%3);}", "CD", func(int64) bool { return true }, func(n int64) int64 { return n % 3 }},
	} {
		p := mustRead(t, c.text)
		if got := letters(p.Sites()); got != c.sites {
			t.Errorf("P10: sites of %q: %s", c.text, got)
		}
		for _, n := range edges {
			want := trap(0, 7)
			if c.passes(n) {
				want = done(c.gives(n), 7)
			}
			runs(t, p, []int64{n}, 99, want)
		}
	}
}

// TestRunLooksInOrder has more than one fault in a statement: the first that is looked at counts.
func TestRunLooksInOrder(t *testing.T) {
	store := mustRead(t, "arr a 3;fn main(i,j,d){a[i/d]=a[j];}") // sites: 0 the store, 1 the division, 2 the load
	runs(t, store, []int64{9, 9, 0}, 99, trap(1))
	runs(t, store, []int64{9, 9, 1}, 99, trap(2))
	runs(t, store, []int64{9, 2, 1}, 99, trap(0))
	runs(t, store, []int64{2, 2, 1}, 99, done(0))
	call := mustRead(t, "fn f(x,y)where x<y{out x;return x;}fn main(x,y,d){return f(f(x,y),x/d);}") // sites: 0 and 1 the calls, 2 the division
	runs(t, call, []int64{2, 1, 0}, 99, trap(1))
	runs(t, call, []int64{1, 2, 0}, 99, trap(2, 1))
	runs(t, call, []int64{1, 2, 1}, 99, trap(0, 1))
	runs(t, call, []int64{-9, 2, 3}, 99, done(-9, -9, -9))
	divide := mustRead(t, "arr a 1;fn main(i,d){return a[i]/(1/d)%(d-1);}") // sites: 0 the load, 1 and 2 the quotients, 3 the rest
	runs(t, divide, []int64{1, 0}, 99, trap(0))
	runs(t, divide, []int64{0, 0}, 99, trap(2))
	runs(t, divide, []int64{0, 2}, 99, trap(1))
	runs(t, divide, []int64{0, 1}, 99, trap(3))
	// What stands to the right is worked, though what stands to the left will trap.
	runs(t, mustRead(t, "arr a 3;fn f(){out 1;return 1;}fn main(n){a[n]=f();}"), []int64{3}, 99, trap(0, 1))
	runs(t, mustRead(t, "arr a 3;fn g(x){a[0]=x;return 5;}fn main(n){a[a[0]]=g(n);return a[0];}"), []int64{9}, 99, done(5))
	tells := "fn f(x){out x;return x;}"
	runs(t, mustRead(t, tells+"fn main(n){out f(1)-f(2)*f(3);return f(4)/n+f(5);}"), []int64{0}, 99, trap(0, 1, 2, 3, -5, 4))
	cond := mustRead(t, tells+"fn main(n){if f(1)==n||f(2)<f(3)&&f(4)!=4||f(5)>=f(6){out 0;}else{out 9;}}")
	runs(t, cond, []int64{0}, 99, done(0, 1, 2, 3, 4, 5, 6, 9))
	runs(t, cond, []int64{1}, 99, done(0, 1, 0))
}

func TestRunOfManyCalls(t *testing.T) {
	count := mustRead(t, "fn f(n){if n>1{return f(n-1)+1;}return 1;}fn main(n){return f(n);}")
	runs(t, count, []int64{api.MaxCalls - 1}, api.MaxFuel, done(api.MaxCalls-1))
	runs(t, count, []int64{api.MaxCalls}, api.MaxFuel, ended(api.Deep))
	runs(t, mustRead(t, "fn f(){}fn main(n){while n>0{n=n-1+f()*f();}return 3;}"), []int64{100}, api.MaxFuel, done(3))
	// The 61st call as one that main does not take, and one without fuel.
	picky := mustRead(t, "fn main(n)where n>0{return main(n-1);}")
	runs(t, picky, []int64{60}, 120, trap(0))
	runs(t, picky, []int64{61}, 120, ended(api.Deep))
	runs(t, picky, []int64{61}, 119, ended(api.Spent))
	runs(t, picky, []int64{1}, 2, trap(0))
	runs(t, picky, []int64{1}, 1, ended(api.Spent))
}

func TestRunOfAMainThatRefuses(t *testing.T) {
	p := mustRead(t, "fn main(x,y)where x<y,y<=9,0!=x,-3<x{out 1;return y;}")
	runs(t, p, []int64{1, 9}, 99, done(9, 1))
	runs(t, p, []int64{-2, -1}, 99, done(-1, 1))
	for _, args := range [][]int64{{9, 9}, {1, 10}, {0, 5}, {-3, 5}, {math.MaxInt64, math.MinInt64}, nil, {1}, {1, 9, 0}, make([]int64, 100)} {
		for _, fuel := range []int{math.MinInt, -1, 0, 1, api.MaxFuel, math.MaxInt} {
			runs(t, p, args, fuel, ended(api.Refused))
		}
	}
	// A main that is called by itself traps instead.
	runs(t, mustRead(t, "fn main(x)where x>0{out x;return main(x-1);}"), []int64{2}, 99, trap(0, 2, 1))
}

// TestRunAtEachFuel has programs that take the last of it in each way.
func TestRunAtEachFuel(t *testing.T) {
	for _, ask := range []struct {
		text string
		args []int64
	}{
		{"fn main(){}", nil}, {tableText, []int64{2}}, {halfText, []int64{3}}, {halfText, []int64{0}}, {deepText, nil},
		{"fn main(n){out 1;out 2;if n>0{out 3;}else{out 4;out 5;}out 6;}", []int64{0}}, {"fn main(n){while n>0{out n;n=n-1;}out 9/n;}", []int64{4}},
		{"fn f(n){out n;if n<2{return n;}return f(n-1)+f(n-2);}fn main(n){out f(n);out n;}", []int64{4}}, {"fn main(n){while n<0{}if n<0{}else{}while n<0||n>5{}out 1/n;}", []int64{0}},
		{"arr a 2;fn f(x)where x<2{a[x]=a[x]+1;return a[x];}fn main(n){while 0<1{out f(n)+f(1);n=n+a[0]-a[0];if a[1]>9{out f(2);}}}", []int64{0}},
	} {
		p := mustRead(t, ask.text)
		codes := codesOf(t, p)
		for fuel := -2; fuel < 150; fuel++ {
			want := p.Walk(ask.args, fuel)
			for _, c := range codes {
				if got := c.Run(ask.args, fuel); !sameResult(got, want) {
					t.Errorf("P12: Run of %q, %v, %d: %+v, want %+v", ask.text, ask.args, fuel, got, want)
				}
			}
		}
	}
}

func TestRunAtMostFuel(t *testing.T) {
	// One for main, one for the while, 9999 tests, 9998 statements within, one for the return: all there is.
	p := mustRead(t, "fn main(n){while n>0{n=n-1;}return 7;}")
	for _, fuel := range []int{api.MaxFuel, api.MaxFuel + 1, 1 << 32, math.MaxInt} {
		runs(t, p, []int64{9998}, fuel, done(7))
		runs(t, p, []int64{9999}, fuel, ended(api.Spent))
	}
	runs(t, p, []int64{9998}, api.MaxFuel-1, ended(api.Spent))
}

// TestRunAgreesWithWalkAndTheOracle asks for all ends but Wild, at random programs, arguments and fuels.
func TestRunAgreesWithWalkAndTheOracle(t *testing.T) {
	m := liveMaker{rand: rand.New(rand.NewSource(12))}
	ends := map[int]int{}
	for range 2500 {
		text := m.program()
		p := mustRead(t, text)
		codes := codesOf(t, p)
		for range 4 {
			args := m.args(p.Params())
			fuel := m.rand.Intn(1 + m.rand.Intn(1000))
			if m.one(30) {
				fuel = api.MaxFuel - 2 + m.rand.Intn(5)
			}
			want := oracleWalk(text, args, fuel)
			for i, got := range []api.Result{p.Walk(args, fuel), codes[0].Run(args, fuel), codes[1].Run(args, fuel)} {
				if !sameResult(got, want) {
					t.Fatalf("P12, P13: %d of %q, %v, %d: %+v, want %+v", i, text, args, fuel, got, want)
				}
			}
			ends[want.End]++
		}
	}
	for _, end := range []int{api.Done, api.Trap, api.Spent, api.Deep, api.Refused} {
		if ends[end] < 200 {
			t.Errorf("only %d of %v with the end %d", ends[end], ends, end)
		}
	}
}

// TestRunOfEachOperator is at the edges of the numbers.
func TestRunOfEachOperator(t *testing.T) {
	edges := []int64{math.MinInt64, math.MinInt64 + 1, -64, -1, 0, 1, 63, 64, math.MaxInt64 - 1, math.MaxInt64}
	for _, op := range []string{"+", "-", "*", "/", "%"} {
		text := "arr a 64;fn main(x,y){let z=x" + op + "y;out z;a[z]=-z;return a[x];}"
		codes := codesOf(t, mustRead(t, text))
		for _, x := range edges {
			for _, y := range edges {
				args := []int64{x, y}
				if got, want := codes[1].Run(args, 99), oracleWalk(text, args, 99); !sameResult(got, want) {
					t.Errorf("P12: Run of %q, %v: %+v, want %+v", text, args, got, want)
				}
			}
		}
	}
	for _, op := range []string{"<", "<=", ">", ">=", "==", "!="} {
		text := "fn f(x,y)where x" + op + "y{return 3;}fn main(x,y){if x" + op + "y{out 1;}else{out 2;}while x" + op + "y{return f(y,x);}return f(x,y);}"
		codes := codesOf(t, mustRead(t, text))
		for _, x := range edges {
			for _, y := range edges {
				args := []int64{x, y}
				if got, want := codes[1].Run(args, 99), oracleWalk(text, args, 99); !sameResult(got, want) {
					t.Errorf("P12: Run of %q, %v: %+v, want %+v", text, args, got, want)
				}
			}
		}
	}
}

func TestRunArgsAreNotWrittenAndNotKept(t *testing.T) {
	codes := codesOf(t, mustRead(t, "fn f(x){x=x*2;return x;}fn main(x,y){out x;x=f(x)+5;y=y-1;let z=f(y);out x;return x+y+z;}"))
	for _, c := range codes {
		args := make([]int64, 2, 9)
		copy(args, []int64{10, 20})
		first := c.Run(args, 99)
		if !slices.Equal(args[:9], []int64{10, 20, 0, 0, 0, 0, 0, 0, 0}) {
			t.Errorf("P2: the arguments after a Run: %v", args[:9])
		}
		args[0], args[1] = 77, 88
		if want := done(25+19+38, 10, 25); !sameResult(first, want) || !sameResult(c.Run([]int64{10, 20}, 99), want) {
			t.Errorf("P2: Run hangs on what stands later where its arguments stood: %+v, want %+v", first, want)
		}
	}
}

// TestOutsOfRunAreNewMemory writes over each list and its spare room.
func TestOutsOfRunAreNewMemory(t *testing.T) {
	for _, c := range codesOf(t, mustRead(t, "fn main(n){let i=0;while i<n{out i*3;i=i+1;}}")) {
		for n := range int64(20) {
			want := []int64{}
			for i := range n {
				want = append(want, i*3)
			}
			var lists [][]int64
			for range 3 {
				lists = append(lists, c.Run([]int64{n}, 999).Outs)
			}
			for i, list := range lists {
				if !slices.Equal(list, want) {
					t.Errorf("P2: the list %d of %d: %v, want %v", i, n, list, want)
				}
				list = list[:cap(list)]
				for k := range list {
					list[k] = -77
				}
			}
		}
	}
}

func TestRunChangesNoCode(t *testing.T) {
	text := "arr a 3;arr b 2;fn f(x)where x<9{if x>0{let y=x;}out y;return y+a[1];}fn main(n){out a[0];out b[1];a[0]=n;b[1]=f(n);a[1]=7;out f(n-1);return a[n]+b[1];}"
	type ask struct {
		args []int64
		fuel int
	}
	asks := []ask{{[]int64{2}, 99}, {[]int64{9}, 99}, {[]int64{0}, 99}, {[]int64{3}, 99}, {[]int64{2}, 9}, {nil, 99}, {[]int64{2}, -1}, {[]int64{1}, api.MaxFuel}}
	var fresh []api.Result
	for _, a := range asks {
		fresh = append(fresh, mustRead(t, text).Compile().Run(a.args, a.fuel))
	}
	codes := codesOf(t, mustRead(t, text))
	bytes := codes[0].Bytes()
	for _, before := range asks {
		for i, a := range asks {
			for _, c := range codes {
				c.Run(before.args, before.fuel)
				mustRead(t, "arr c 1;fn main(){c[0]=5;}").Compile().Run(nil, 9)
				if got := c.Run(a.args, a.fuel); !sameResult(got, fresh[i]) || c.Bytes() != bytes {
					t.Errorf("P2: Run of %v behind %v: %+v, want %+v", a, before, got, fresh[i])
				}
			}
		}
	}
}

func TestCompileChangesNoProgram(t *testing.T) {
	m := liveMaker{rand: rand.New(rand.NewSource(13))}
	for range 200 {
		text := m.program()
		p := mustRead(t, text)
		printed, sites, args := p.Print(), p.Sites(), m.args(p.Params())
		walked, bytes := p.Walk(args, 500), mustRead(t, text).Compile().Bytes()
		for range 2 {
			first := p.Compile()
			if got := first.Bytes(); got != bytes {
				t.Fatalf("P2: Compile of %q: %q, want %q", text, got, bytes)
			}
			if p.Print() != printed || !slices.Equal(p.Sites(), sites) || !sameResult(p.Walk(args, 500), walked) || !sameResult(first.Run(args, 500), walked) {
				t.Fatalf("P2: %q is another program behind Compile", text)
			}
		}
	}
}

// TestRunsAtOnce would give other numbers, if two runs shared anything.
func TestRunsAtOnce(t *testing.T) {
	p := mustRead(t, tableText)
	c := p.Compile()
	var group sync.WaitGroup
	got := make([]int64, 50)
	for i := range got {
		group.Go(func() {
			if c.Bytes() == p.Compile().Bytes() {
				got[i] = c.Run([]int64{int64(i)}, api.MaxFuel).Value
			}
		})
	}
	group.Wait()
	for i, value := range got {
		if value != 45*int64(i) {
			t.Errorf("P2: Run of %d: %d", i, value)
		}
	}
}

// filled fills a text up with one part.
func filled(head, part, tail string) string {
	return head + strings.Repeat(part, (api.MaxText-len(head)-len(tail))/len(part)) + tail
}

// TestLongestCodes has the texts that say most in each way.
func TestLongestCodes(t *testing.T) {
	for _, text := range []string{
		filled("fn main(x){return x", "/x", ";}"), filled("fn main(x){return x", "%x", ";}"), filled("fn main(x){return x", "/x%x*x-x", ";}"), filled("fn main(x){return 1", "+1", ";}"),
		filled("fn main(x){return x", "--x", ";}"), filled("fn main(x){return ---------x", "---------x", ";}"), filled("fn main(x){return 999999999", "+999999999", ";}"), filled("fn main(x){return 128", "/128", ";}"),
		filled("arr a 2;fn main(x){return x", "+a[x]", ";}"), filled("arr a 2;fn main(x){return x", "/a[a[a[a[a[a[x]]]]]]", ";}"), filled("arr a 2;fn main(x){", "a[x]=x;", "}"),
		filled("arr a 2;fn main(x){", "a[x/x]=x/x;", "}"), filled("fn main(x){", "x=x;", "}"), filled("fn main(x){", "x=x/x;", "}"), filled("fn main(x){", "out x;", "}"), filled("fn main(x){", "out x/x;", "}"),
		filled("fn main(x){", "if 1<x{}", "}"), filled("fn main(x){", "if x<1{}else{x=1;}", "}"), filled("fn main(x){", "if x<1{}else{}", "}"), filled("fn main(x){", "while x<1{}", "}"), filled("fn main(x){", "while x<1{x=1;}", "}"),
		filled("fn main(x){if x<1", "||x<1", "{}}"), filled("fn main(x){if x<1", "&&x<1", "{}}"), filled("fn main(x){if x/x<1", "&&x/x<1", "{}}"), filled("fn main(x){while x<1||x<x", "&&1>x||x<x/x", "{x=x;}}"),
		filled("fn f()where 1<2,1<2,1<2,1<2{}fn main(x){return x", "+f()", ";}"), filled("fn f()where 2<1{}fn main(x){return x", "/f()", ";}"), filled("fn f(a,b,c,d)where a<b,b<c,c<d,d!=a{}fn main(x){return x", "+f(x,x,x,x)", ";}"),
		filled("fn f(a)where a<9{}fn main(x){return x", "+f(f(f(f(f(f(f(x)))))))", ";}"), filled("fn main(x)where x<999999999,x>-999999999{return x", "+main(1/x)", ";}"),
		filled("arr a 1;arr b 1;arr c 1;arr d 1;arr e 1;arr f 1;fn main(x){x=1", "-1", ";}"),
		filled("fn a(){}fn b(){}fn c(){}fn d(){}fn e(){}fn f(){}fn g(){}fn main(x){let y=0;while y<0{while y<0{while y<0{x=x", "/x", ";}}}}"),
	} {
		p := mustRead(t, text)
		codes := codesOf(t, p)
		for _, n := range []int64{math.MinInt64, -1, 0, 1, 2} {
			want := p.Walk([]int64{n}, 3000)
			for _, c := range codes {
				if got := c.Run([]int64{n}, 3000); !sameResult(got, want) {
					t.Errorf("P12: Run of %.40q, %d: %+v, want %+v", text, n, got, want)
				}
			}
		}
	}
}

// TestRunEnds has the programs that take longest, and the ones that stand deepest when they end.
func TestRunEnds(t *testing.T) {
	for _, text := range []string{
		"fn main(){while 1<2{}}", filled("fn main(n){while 1<2{n=1", "+1", ";}}"), filled("fn main(n){while 1<2", "&&1<2", "{n=n;}}"), filled("fn main(n){while 1>2", "||1>2", "{n=n;}}"),
		filled("fn main(){return main()", "+main()", ";}"), filled("fn main(a,b,c,d){return 0", "+main(a,b,c,d)", ";}"), filled("fn f(n){if n<1{return 0;}return f(n-1)", "+f(n-1)", ";}fn main(){return f(58);}"),
		filled("fn f(n){while 1<2{out f(n+1)", "*f(n)", ";}}fn main(){return f(1);}"), filled("fn main(n){", "out n;", "}"), filled("fn main(n){while 1<2{", "out n;", "}}"), deepLoops(),
	} {
		p := mustRead(t, text)
		c := p.Compile()
		for _, n := range []int64{math.MinInt64, 0, math.MaxInt64} {
			for _, fuel := range []int{math.MinInt, 0, 1, 119, 1000, math.MaxInt} {
				args := slices.Repeat([]int64{n}, p.Params())
				if got, want := c.Run(args, fuel), p.Walk(args, fuel); !sameResult(got, want) {
					t.Errorf("P1, P12: Run of %.40q, %d, %d: %d, want %d", text, n, fuel, got.End, want.End)
				}
			}
		}
	}
	for params := range api.MaxParams + 1 {
		names := strings.Join([]string{"a", "b", "c", "d"}[:params], ",")
		p := mustRead(t, "fn main("+names+"){return "+strconv.Itoa(params)+";}")
		for length := range 30 {
			want := ended(api.Refused)
			if length == params {
				want = done(int64(params))
			}
			runs(t, p, make([]int64, length), 99, want)
		}
	}
}

func TestNoProgramHasNoCode(t *testing.T) {
	for _, p := range []*Program{nil, {}} {
		if p.Compile() != nil {
			t.Errorf("P1: no program has a code")
		}
	}
	for _, c := range []*Code{nil, {}} {
		if c.Bytes() != "" || !sameResult(c.Run([]int64{1}, 99), api.Result{}) {
			t.Errorf("P1: no code has bytes, or runs")
		}
	}
}
