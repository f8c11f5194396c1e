package names

import (
	"slices"
	"testing"

	"surefoot/api"
	"surefoot/grammar"
	"surefoot/tree"
	"surefoot/words"
)

func resolve(t *testing.T, text string) (*tree.Program, api.Fault) {
	t.Helper()
	list, fault := words.Cut(text)
	if fault != (api.Fault{}) {
		t.Fatalf("Cut(%q): %+v", text, fault)
	}
	program, fault := grammar.Parse(list)
	if fault != (api.Fault{}) {
		t.Fatalf("Parse(%q): %+v", text, fault)
	}
	return program, Resolve(program, len(text))
}

func TestNamesThatHold(t *testing.T) {
	for _, text := range []string{
		"fn main(){}",
		"fn main(main){let f=main; f=f(f)+a[f]; a[f]=1; return f;} fn f(x){} arr a 64;",
		"fn main(){if 1<2{let x=1;}else{x=2;}while x<3{let y=x;}return y;}",
		"fn f(x){let y=x;} fn main(y){let x=y;}",
		"fn main(a,b,c,d)where a<b,-1<c,c<d,1<2{let e=1;let f=1;let g=1;let h=1;let i=1;let j=1;let k=1;let l=1;}",
		"fn main(){let a=1;let b=1;let c=1;let d=1;let e=1;let f=1;let g=1;let h=1;let i=1;let j=1;let k=1;let l=1;}",
		"arr a 1;arr b 1;arr c 1;arr d 1;arr e 1;arr f 1;fn g(){}fn h(){}fn i(){}fn j(){}fn k(){}fn l(){}fn m(){}fn main(){}",
		"fn main(){return f(main(),f(1,2));} fn f(x,y){}",
		"fn main(x){let y=1;x=y;y=x;}",
		"fn Main(){}fn main(){let é=1;let É=é;}",
	} {
		if _, fault := resolve(t, text); fault != (api.Fault{}) {
			t.Errorf("P5: %q: %+v", text, fault)
		}
	}
}

func TestWrongNames(t *testing.T) {
	for _, c := range []struct {
		text string
		at   int
	}{
		{"", 0}, {"arr main 1; ", 12}, {"fn Main(){} #", 13}, {"arr main 1; fn main(){}", 15},
		{"fn main(){} arr main 1;", 16}, {"arr a 1; arr a 1; fn main(){}", 13}, {"fn f(){} fn f(){} fn main(){}", 12},
		{"fn main(x,y,x){}", 12}, {"fn main(x)where x<y{}", 18}, {"fn main(x)where y<x{}", 16}, {"fn main()where a<1{} arr a 1;", 15}, {"fn main(x)where z<1{let z=1;}", 16},
		{"fn main(x){let x=1;}", 15}, {"fn main(){let x=1;let x=1;}", 22}, {"fn main(){while 1<2{let x=1;}let x=1;}", 33},
		{"fn main(){let x=x;}", 16}, {"fn main(){let x=1+a[x];}arr a 1;", 20}, {"fn main(){x=1;let x=1;}", 10}, {"fn main(){a=1;}arr a 1;", 10}, {"fn main(){out main;}", 14}, {"fn f(x){}fn main(){out x;}", 23}, {"fn main(){if x<1{let x=1;}}", 13}, {"fn main(){while x<1{let x=1;}}", 16}, {"fn main(){if 1<2{y=1;}else{let y=1;}}", 17},
		{"fn main(){out f();}", 14}, {"fn main(){out a[0];}", 14}, {"fn main(){a[0]=1;}", 10}, {"fn main(x){out x[0];}", 15}, {"fn main(x){x[0]=1;}", 11}, {"fn main(x){out x();}", 15},
		{"fn main(){out main[0];}", 14}, {"fn main(){main[0]=1;}", 10}, {"arr a 1;fn main(){out a();}", 22},
		{"fn main(){out b(1);}arr b 1;fn b(x){}", 14}, {"fn main(){out b[1];}fn b(x){}arr b 1;", 14}, {"fn main(){out b(1);}fn b(x){}arr b 1;", 33},
		{"fn main(){out y+z;}", 14}, {"fn main(x){a[y]=z;}", 11}, {"fn main(x){a[y]=z;}arr a 1;", 13}, {"fn main(x){a[x]=z;}arr a 1;", 16}, {"fn main(){if 1<2&&3<y||z<1{}}", 20},
	} {
		if _, fault := resolve(t, c.text); fault != (api.Fault{Code: api.ErrName, At: c.at}) {
			t.Errorf("P5: %q: %+v, want ErrName at %d", c.text, fault, c.at)
		}
	}
}

func TestWrongCounts(t *testing.T) {
	for _, c := range []struct {
		text string
		at   int
	}{
		{"arr a 0;", 6}, {"arr a 65;", 6}, {"arr a 999999999;", 6}, {"arr a 00;", 6},
		{"arr a 1;arr b 1;arr c 1;arr d 1;arr e 1;arr f 1;arr g 0;", 52},
		{"fn a(){}fn b(){}fn c(){}fn d(){}fn e(){}fn f(){}fn g(){}fn h(){}fn main(){}", 67},
		{"fn main(){out i();}fn b(){}fn c(){}fn d(){}fn e(){}fn f(){}fn g(){}fn h(){}fn i(){}", 78},
		{"fn main(a,b,c,d,e,a){}", 16}, {"fn main(){out f(1,2,3,4,5);}fn f(a,b,c,d,e){}", 41},
		{"fn main(a)where 1<2,1<2,1<2,1<2,a<z{}", 32}, {"fn main(a)where 1<2,1<2,1<2,1<2, - 1<z{}", 33}, {"fn main(a)where 1<2,1<2,1<2,1<2,1<2,1<2{}", 32},
		{"fn main(){let a=1;let b=1;let c=1;let d=1;let e=1;let f=1;let g=1;let h=1;let i=1;let j=1;let k=1;let l=1;if 1<2{let m=z;}}", 117},
		{"fn main(a){let b=1;let c=1;let d=1;let e=1;let f=1;let g=1;let h=1;let i=1;let j=1;let k=1;let l=1;let m=z;}", 103},
		{"fn main(){out main(1);}", 14}, {"fn main(a,b){out main();}", 17}, {"fn main(){out f(1,(2),3);}fn f(a,b){}", 14}, {"fn main(){out f(g(1,2),z);}fn f(a){}fn g(a,b){}", 14}, {"fn main(){out f(g(1,2));}fn f(a){}fn g(a){}", 16},
		{"fn main(){out f(1);}fn f(){}fn f(a){}", 14}, {"fn main(){out f(1)+z;}fn f(){}", 14}, {"arr a 65;fn main(){out z;}", 6},
	} {
		if _, fault := resolve(t, c.text); fault != (api.Fault{Code: api.ErrCount, At: c.at}) {
			t.Errorf("P5: %q: %+v, want ErrCount at %d", c.text, fault, c.at)
		}
	}
}

func TestNameGoesAheadOfCount(t *testing.T) {
	for _, c := range []struct {
		text string
		at   int
	}{
		{"arr a 1;arr b 1;arr c 1;arr d 1;arr e 1;arr f 1;arr a 65;", 52},
		{"fn a(){}fn b(){}fn c(){}fn d(){}fn e(){}fn f(){}fn g(){}fn h(){}fn a(){}", 67},
		{"fn main(a,b,c,d,b){}", 16},
		{"fn main(a)where 1<2,1<2,1<2,1<2,z<2{}", 32},
		{"fn main(a)where z<2,1<2,1<2,1<2,1<2{}", 16},
		{"fn main(){let a=1;let b=1;let c=1;let d=1;let e=1;let f=1;let g=1;let h=1;let i=1;let j=1;let k=1;let l=1;let a=1;}", 110},
		{"arr f 1;fn main(){out f(1);}fn f(){}", 22},
		{"fn main(){out z+main(1);}", 14},
	} {
		if _, fault := resolve(t, c.text); fault != (api.Fault{Code: api.ErrName, At: c.at}) {
			t.Errorf("P5: %q: %+v, want ErrName at %d", c.text, fault, c.at)
		}
	}
}

func TestWhatNamesMean(t *testing.T) {
	program, fault := resolve(t, "arr a 3; fn f(x, y) { let x2 = y; return x2; } arr b 4; fn main(p) { let q = b[p]; q = f(a[0], q); b[1] = q; }")
	if fault != (api.Fault{}) {
		t.Fatalf("P5: %+v", fault)
	}
	if len(program.Arrays) != 2 || len(program.Funcs) != 2 || program.Main != 1 || program.Arrays[1].Length != 4 {
		t.Fatalf("P5: %+v", program)
	}
	f, main := program.Funcs[0], program.Funcs[1]
	first := f.Body[0].(*tree.Set)
	get := main.Body[0].(*tree.Set)
	call := main.Body[1].(*tree.Set)
	store := main.Body[2].(*tree.Store)
	got := []int{
		f.Vars, main.Vars, first.Var.Which, first.Value.(*tree.Variable).Name.Which, f.Body[1].(*tree.Return).Value.(*tree.Variable).Name.Which,
		get.Var.Which, get.Value.(*tree.Element).Array.Which, call.Var.Which, call.Value.(*tree.Call).Func.Which, call.Value.(*tree.Call).Args[0].(*tree.Element).Array.Which, store.Array.Which,
	}
	if want := []int{3, 2, 2, 1, 2, 1, 1, 1, 0, 0, 1}; !slices.Equal(got, want) {
		t.Errorf("P5: %v, want %v", got, want)
	}
}
