package surefoot

import (
	"math"
	"strings"
	"testing"
	"unsafe"

	"surefoot/api"
)

func reads(t *testing.T, text string, params int) {
	t.Helper()
	p, fault := Read(text)
	if p == nil || fault != (api.Fault{}) {
		t.Errorf("P3 to P5: Read(%.80q): %+v", text, fault)
		return
	}
	if got := p.Params(); got != params {
		t.Errorf("P6: Params of %.80q: %d, want %d", text, got, params)
	}
}

func refuses(t *testing.T, text string, code api.Errno, at int) {
	t.Helper()
	if p, fault := Read(text); p != nil || fault != (api.Fault{Code: code, At: at}) {
		t.Errorf("P3 to P5: Read(%.80q): %v, %+v, want %d at %d", text, p != nil, fault, code, at)
	}
}

func TestExamplesOfTheDocument(t *testing.T) {
	reads(t, "arr a 10; fn main(n) { let i = 0; let s = 0; while i < 10 { a[i] = i * n; s = s + a[i]; i = i + 1; } return s; }", 1)
	reads(t, "fn half(x, y) where y > 0 { return x / y; } fn main(n) { if n != 0 && n > 0 { return half(10, n); } return half(1, n * n); }", 1)
	reads(t, "fn main() { return main(); }", 0)
	refuses(t, "fn main( { }", api.ErrSyntax, 9)
	refuses(t, "fn main() { x = 1; }", api.ErrName, 12)
	refuses(t, "fn main() { return 1000000000; }", api.ErrNumber, 19)
	refuses(t, "fn main() { return 1 ! 2; }", api.ErrText, 21)
	refuses(t, "fn f() { }", api.ErrName, 10)
}

func TestParams(t *testing.T) {
	for n := range api.MaxParams + 1 {
		list := strings.Join([]string{"a", "b", "c", "d"}[:n], ",")
		reads(t, "fn main("+list+"){}", n)
		reads(t, "arr x 1; fn f(p,q,r){} fn main("+list+"){let z=1;} fn g(p){}", n)
	}
}

func TestLengths(t *testing.T) {
	reads(t, "fn main(){}"+strings.Repeat(" ", api.MaxText-11), 0)
	reads(t, "fn main(){}#"+strings.Repeat("é", (api.MaxText-12)/2), 0)
	refuses(t, "fn main(){}"+strings.Repeat(" ", api.MaxText-10), api.ErrText, 0)
	refuses(t, strings.Repeat("!", api.MaxText+1), api.ErrText, 0)
	reads(t, "fn main(){return 1"+strings.Repeat("+1", (api.MaxText-20)/2)+";}", 0)
}

func TestWhichFaultGoesAhead(t *testing.T) {
	refuses(t, "fn ! 1000000000", api.ErrText, 3)
	refuses(t, "fn 1000000000 !", api.ErrNumber, 3)
	refuses(t, "fn fn main(){x=1;} # \xff", api.ErrText, 21)
	refuses(t, "} 1000000000", api.ErrNumber, 2)
	refuses(t, "fn main(){x=y; fn", api.ErrSyntax, 15)
	refuses(t, "arr a 0; fn main(){x="+strings.Repeat("(", 10), api.ErrDeep, 30)
	refuses(t, "fn main(){x="+strings.Repeat("(", 10)+"fn", api.ErrDeep, 21)
	refuses(t, "fn main(){x=fn"+strings.Repeat("(", 10), api.ErrSyntax, 12)
	refuses(t, "arr a 0; fn main(){x=y;}", api.ErrCount, 6)
	refuses(t, "fn f(){x=y;} arr a 0;", api.ErrName, 7)
	refuses(t, "fn f(){}arr a 0;", api.ErrCount, 14)
}

// TestTextMayChange hands in a text whose bytes are written over later.
func TestTextMayChange(t *testing.T) {
	bytes := []byte("fn main(alpha, beta) { let gamma = alpha; out gamma; }")
	p, _ := Read(unsafe.String(&bytes[0], len(bytes)))
	for i := range bytes {
		bytes[i] = '!'
	}
	if got := p.Params(); got != 2 {
		t.Errorf("P2: Params: %d, want 2", got)
	}
}

func TestSameToSame(t *testing.T) {
	texts := []string{"fn main(x){}", "fn main(){x=1;}", "fn main(x,y){x=y;}", "arr a 0;", ""}
	for range 3 {
		for _, text := range texts {
			p, fault := Read(text)
			again, faultAgain := Read(text)
			if fault != faultAgain || (p == nil) != (again == nil) || p != nil && p.Params() != again.Params() {
				t.Errorf("P2: Read(%q): %+v, then %+v", text, fault, faultAgain)
			}
		}
	}
	p, _ := Read("fn main(x,y,z){}")
	Read("fn main(){}")
	if p.Params() != 3 || p.Params() != 3 {
		t.Errorf("P2: Params: %d, want 3", p.Params())
	}
}

// callAll makes every call there is: a panic is the test's end.
func callAll(text string) {
	p, _ := Read(text)
	if p == nil {
		return
	}
	p.Print()
	p.Params()
	p.Sites()
	for _, fuel := range []int{math.MinInt, -1, 0, 1, api.MaxFuel, math.MaxInt} {
		p.Walk(nil, fuel)
		p.Walk([]int64{math.MinInt64, -1, 0, 1, math.MaxInt64}, fuel)
	}
}

func TestNoCallPanics(t *testing.T) {
	callAll("fn main(a,b,c,d)where a<b{}")
	for b := range 256 {
		callAll(string([]byte{byte(b)}))
		callAll("fn main(){x=" + string([]byte{byte(b)}) + ";}")
	}
	for _, text := range []string{"(", "-", "{", "[", "a[", "f(", "fn f(", "if 1<2{", "1+", "=", "&&", "fn f(){", "a,", "\xff", "é", "9", "#"} {
		callAll(strings.Repeat(text, api.MaxText/len(text)))
		callAll("fn main(){x=" + strings.Repeat(text, (api.MaxText-12)/len(text)))
		callAll("fn main(){" + strings.Repeat(text, (api.MaxText-10)/len(text)))
		callAll(strings.Repeat(text, api.MaxText))
	}
	if (*Program)(nil).Params() != 0 || new(Program).Params() != 0 {
		t.Error("P1: Params of no program")
	}
	Load("")
	Load("\xff\x00")
}
