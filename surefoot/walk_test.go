package surefoot

import (
	"math"
	"math/rand"
	"slices"
	"strconv"
	"strings"
	"sync"
	"testing"

	"surefoot/api"
)

func done(value int64, outs ...int64) api.Result {
	return api.Result{End: api.Done, Value: value, Site: api.None, Outs: outs}
}

func trap(site int, outs ...int64) api.Result {
	return api.Result{End: api.Trap, Site: site, Outs: outs}
}

func ended(end int, outs ...int64) api.Result {
	return api.Result{End: end, Site: api.None, Outs: outs}
}

func sameResult(a, b api.Result) bool {
	return a.End == b.End && a.Value == b.Value && a.Site == b.Site && slices.Equal(a.Outs, b.Outs)
}

func mustRead(t *testing.T, text string) *Program {
	t.Helper()
	p, fault := Read(text)
	if p == nil {
		t.Fatalf("P3 to P5: Read(%q): %+v", text, fault)
	}
	return p
}

// walks wants the same of the program's code too.
func walks(t *testing.T, text string, args []int64, fuel int, want api.Result) {
	t.Helper()
	p := mustRead(t, text)
	if got := p.Walk(args, fuel); !sameResult(got, want) {
		t.Errorf("P7: Walk of %q, %v, %d: %+v, want %+v", text, args, fuel, got, want)
	}
	runs(t, p, args, fuel, want)
}

const (
	tableText = "arr a 10; fn main(n) { let i = 0; let s = 0; while i < 10 { a[i] = i * n; s = s + a[i]; i = i + 1; } return s; }"
	halfText  = "fn half(x, y) where y > 0 { return x / y; } fn main(n) { if n != 0 && n > 0 { return half(10, n); } return half(1, n * n); }"
	deepText  = "fn main() { return main(); }"
)

func TestWalkOfTheExamples(t *testing.T) {
	walks(t, tableText, []int64{2}, api.MaxFuel, done(90))
	walks(t, halfText, []int64{3}, api.MaxFuel, done(3))
	walks(t, halfText, []int64{0}, api.MaxFuel, trap(2))
	walks(t, halfText, []int64{-2}, api.MaxFuel, done(0))
	walks(t, deepText, nil, api.MaxFuel, ended(api.Deep))
	walks(t, deepText, nil, 120, ended(api.Deep))
	walks(t, deepText, nil, 119, ended(api.Spent))
}

func TestFuelIsCut(t *testing.T) {
	for _, fuel := range []int{math.MinInt, math.MinInt + 1, -api.MaxFuel, -1, 0} {
		walks(t, "fn main(){}", nil, fuel, ended(api.Spent))
	}
	walks(t, "fn main(){}", nil, 1, done(0))
	// One for main, one for the while, 9999 tests, 9998 statements within, one for the return: all there is.
	count := "fn main(n){while n>0{n=n-1;}return 7;}"
	for _, fuel := range []int{api.MaxFuel, api.MaxFuel + 1, api.MaxFuel + 2, 1 << 32, math.MaxInt} {
		walks(t, count, []int64{9998}, fuel, done(7))
		walks(t, count, []int64{9999}, fuel, ended(api.Spent))
	}
	walks(t, count, []int64{9998}, api.MaxFuel-1, ended(api.Spent))
}

func TestRefusedGoesAheadOfFuel(t *testing.T) {
	for _, fuel := range []int{-1, 0, 1, api.MaxFuel} {
		walks(t, "fn main(){out 1;}", []int64{1}, fuel, ended(api.Refused))
		walks(t, "fn main(n){out 1;}", nil, fuel, ended(api.Refused))
		walks(t, "fn main(n){out 1;}", make([]int64, 100), fuel, ended(api.Refused))
		walks(t, "fn main(n)where n>0{out 1;}", []int64{0}, fuel, ended(api.Refused))
		walks(t, "fn main(n)where n>0{out 1;}", []int64{1, 1}, fuel, ended(api.Refused))
	}
}

// lessFuel holds what p answers with this fuel against what it answers with all there is.
func lessFuel(t *testing.T, text string, p *Program, args []int64, fuel int, whole api.Result) api.Result {
	t.Helper()
	got := p.Walk(args, fuel)
	if sameResult(got, whole) {
		return got
	}
	isBeginning := len(got.Outs) <= len(whole.Outs) && slices.Equal(got.Outs, whole.Outs[:len(got.Outs)])
	if got.End != api.Spent || got.Value != 0 || got.Site != api.None || !isBeginning {
		t.Fatalf("P8: Walk of %q, %v, %d: %+v, with more fuel %+v", text, args, fuel, got, whole)
	}
	return got
}

func TestEachFuelIsSpentOrTheSame(t *testing.T) {
	for _, c := range []struct {
		text string
		args []int64
		most int // with so much it is not spent
	}{
		{tableText, []int64{2}, 1 + 2 + 1 + 11 + 30 + 1},
		{halfText, []int64{3}, 1 + 2 + 2},
		{halfText, []int64{0}, 1 + 2},
		{deepText, nil, 120},
		{"fn main(n){out 1;out 2;if n>0{out 3;}else{out 4;out 5;}out 6;}", []int64{0}, 7},
		{"fn main(n){while n>0{out n;n=n-1;}out 9/n;}", []int64{4}, 1 + 1 + 5 + 8 + 1},
		{"fn f(n){out n;if n<2{return n;}return f(n-1)+f(n-2);}fn main(n){out f(n);out n;}", []int64{4}, 1 + 2 + 9*(1+3)},
	} {
		p := mustRead(t, c.text)
		whole := p.Walk(c.args, api.MaxFuel)
		if whole.End == api.Spent {
			t.Errorf("P7: Walk of %q, %v: %+v", c.text, c.args, whole)
		}
		for fuel := range c.most + 50 {
			got := lessFuel(t, c.text, p, c.args, fuel, whole)
			if (got.End == api.Spent) != (fuel < c.most) {
				t.Errorf("P7: Walk of %q, %v, %d: %+v", c.text, c.args, fuel, got)
			}
		}
	}
}

// TestWalkAgreesWithTheOracle asks for all ends but Wild, at random programs, arguments and fuels.
func TestWalkAgreesWithTheOracle(t *testing.T) {
	m := liveMaker{rand: rand.New(rand.NewSource(3))}
	ends := map[int]int{}
	for range 2500 {
		text := m.program()
		p := mustRead(t, text)
		for range 4 {
			args := m.args(p.Params())
			fuel := m.rand.Intn(1 + m.rand.Intn(1000))
			if m.one(30) {
				fuel = api.MaxFuel - 2 + m.rand.Intn(5)
			}
			got, want := p.Walk(args, fuel), oracleWalk(text, args, fuel)
			if !sameResult(got, want) {
				t.Fatalf("P7: Walk of %q, %v, %d: %+v, want %+v", text, args, fuel, got, want)
			}
			ends[got.End]++
		}
	}
	for _, end := range []int{api.Done, api.Trap, api.Spent, api.Deep, api.Refused} {
		if ends[end] < 200 {
			t.Errorf("only %d of %v with the end %d", ends[end], ends, end)
		}
	}
}

func TestRandomProgramsWithLessFuel(t *testing.T) {
	m := liveMaker{rand: rand.New(rand.NewSource(4))}
	for range 800 {
		text := m.program()
		p := mustRead(t, text)
		args := m.args(p.Params())
		last := p.Walk(args, api.MaxFuel)
		for fuel := api.MaxFuel; fuel > 0; fuel -= 1 + m.rand.Intn(1+fuel/4) {
			last = lessFuel(t, text, p, args, fuel, last)
		}
	}
}

func TestArgsAreNotWrittenAndNotKept(t *testing.T) {
	p := mustRead(t, "fn f(x){x=x*2;return x;}fn main(x,y){out x;x=f(x)+5;y=y-1;let z=f(y);out x;return x+y+z;}")
	args := make([]int64, 2, 9)
	copy(args, []int64{10, 20})
	first := p.Walk(args, 99)
	if !slices.Equal(args[:9], []int64{10, 20, 0, 0, 0, 0, 0, 0, 0}) {
		t.Errorf("P2: the arguments after a Walk: %v", args[:9])
	}
	args[0], args[1] = 77, 88
	if want := done(25+19+38, 10, 25); !sameResult(first, want) || !sameResult(p.Walk([]int64{10, 20}, 99), want) {
		t.Errorf("P2: Walk hangs on what stands later where its arguments stood: %+v, want %+v", first, want)
	}
}

// TestOutsAreNewMemory writes over each list and its spare room.
func TestOutsAreNewMemory(t *testing.T) {
	p := mustRead(t, "fn main(n){let i=0;while i<n{out i*3;i=i+1;}}")
	for n := range int64(20) {
		want := []int64{}
		for i := range n {
			want = append(want, i*3)
		}
		var lists [][]int64
		for range 3 {
			lists = append(lists, p.Walk([]int64{n}, 999).Outs)
		}
		for i, list := range lists {
			if !slices.Equal(list, want) {
				t.Errorf("P2: the list %d of %d: %v, want %v", i, n, list, want)
			}
			list = list[:cap(list)]
			for k := range list {
				list[k] = -77
			}
		}
	}
}

func TestWalkChangesNoProgram(t *testing.T) {
	text := "arr a 3;arr b 2;fn f(x)where x<9{if x>0{let y=x;}out y;return y+a[1];}fn main(n){out a[0];out b[1];a[0]=n;b[1]=f(n);a[1]=7;out f(n-1);return a[n]+b[1];}"
	p := mustRead(t, text)
	type ask struct {
		args []int64
		fuel int
	}
	asks := []ask{{[]int64{2}, 99}, {[]int64{9}, 99}, {[]int64{0}, 99}, {[]int64{3}, 99}, {[]int64{2}, 9}, {nil, 99}, {[]int64{2}, -1}, {[]int64{1}, api.MaxFuel}}
	var fresh []api.Result
	for _, a := range asks {
		fresh = append(fresh, mustRead(t, text).Walk(a.args, a.fuel))
	}
	for _, before := range asks {
		for i, a := range asks {
			p.Walk(before.args, before.fuel)
			mustRead(t, "arr c 1;fn main(){c[0]=5;}").Walk(nil, 9)
			if got := p.Walk(a.args, a.fuel); !sameResult(got, fresh[i]) || p.Params() != 1 {
				t.Errorf("P2: Walk of %v behind %v: %+v, want %+v", a, before, got, fresh[i])
			}
		}
	}
}

// TestWalksAtOnce would give other numbers, if two walks shared anything.
func TestWalksAtOnce(t *testing.T) {
	p := mustRead(t, tableText)
	var group sync.WaitGroup
	got := make([]int64, 50)
	for i := range got {
		group.Go(func() { got[i] = p.Walk([]int64{int64(i)}, api.MaxFuel).Value })
	}
	group.Wait()
	for i, value := range got {
		if value != 45*int64(i) {
			t.Errorf("P2: Walk of %d: %d", i, value)
		}
	}
}

// TestWalkEnds has the programs that take longest, and the ones that stand deepest when they end.
func TestWalkEnds(t *testing.T) {
	fill := func(head, part, tail string) string {
		return head + strings.Repeat(part, (api.MaxText-len(head)-len(tail))/len(part)) + tail
	}
	for _, text := range []string{
		"fn main(){while 1<2{}}",
		fill("fn main(n){while 1<2{n=1", "+1", ";}}"),
		fill("fn main(n){while 1<2", "&&1<2", "{n=n;}}"),
		fill("fn main(n){while 1>2", "||1>2", "{n=n;}}"),
		fill("fn main(){return main()", "+main()", ";}"),
		fill("fn main(n){return main(n)", "+main(n/0)", ";}"),
		fill("fn main(a,b,c,d){return 0", "+main(a,b,c,d)", ";}"),
		fill("fn f(n){if n<1{return 0;}return f(n-1)", "+f(n-1)", ";}fn main(){return f(58);}"),
		fill("fn f(n){while 1<2{out f(n+1)", "*f(n)", ";}}fn main(){return f(1);}"),
		fill("fn main(n){", "out n;", "}"),
	} {
		p := mustRead(t, text)
		for _, n := range []int64{math.MinInt64, 0, math.MaxInt64} {
			for _, fuel := range []int{math.MinInt, 0, 1, 119, 1000, math.MaxInt} {
				r := p.Walk(slices.Repeat([]int64{n}, p.Params()), fuel)
				if r.End < api.Done || r.End > api.Deep || len(r.Outs) > api.MaxFuel {
					t.Errorf("P1: Walk of %.40q, %d, %d: %d, %d outs", text, n, fuel, r.End, len(r.Outs))
				}
			}
		}
	}
}

// TestWalkAtAllLists asks every operator at the edges of the numbers, and lists of every length.
func TestWalkAtAllLists(t *testing.T) {
	edges := []int64{math.MinInt64, math.MinInt64 + 1, -64, -1, 0, 1, 63, 64, math.MaxInt64 - 1, math.MaxInt64}
	for _, op := range []string{"+", "-", "*", "/", "%"} {
		text := "arr a 64;fn main(x,y){let z=x" + op + "y;out z;a[z]=-z;return a[x];}"
		p := mustRead(t, text)
		for _, x := range edges {
			for _, y := range edges {
				args := []int64{x, y}
				if got, want := p.Walk(args, 99), oracleWalk(text, args, 99); !sameResult(got, want) {
					t.Errorf("P7: Walk of %q, %v: %+v, want %+v", text, args, got, want)
				}
			}
		}
	}
	for params := range api.MaxParams + 1 {
		names := strings.Join([]string{"a", "b", "c", "d"}[:params], ",")
		p := mustRead(t, "fn main("+names+"){return "+strconv.Itoa(params)+";}")
		for length := range 30 {
			want := ended(api.Refused)
			if length == params {
				want = done(int64(params))
			}
			if got := p.Walk(make([]int64, length), 99); !sameResult(got, want) {
				t.Errorf("P7: Walk with %d of %d arguments: %+v", length, params, got)
			}
		}
	}
}
