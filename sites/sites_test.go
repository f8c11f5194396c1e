package sites

import (
	"slices"
	"testing"

	"surefoot/api"
	"surefoot/grammar"
	"surefoot/names"
	"surefoot/tree"
	"surefoot/words"
)

func number(t *testing.T, text string) *tree.Program {
	t.Helper()
	list, fault := words.Cut(text)
	if fault != (api.Fault{}) {
		t.Fatalf("Cut(%q): %+v", text, fault)
	}
	program, fault := grammar.Parse(list)
	if fault != (api.Fault{}) {
		t.Fatalf("Parse(%q): %+v", text, fault)
	}
	if fault = names.Resolve(program, len(text)); fault != (api.Fault{}) {
		t.Fatalf("Resolve(%q): %+v", text, fault)
	}
	Number(program)
	return program
}

func load(at int) api.Site   { return api.Site{Kind: api.Load, At: at} }
func store(at int) api.Site  { return api.Site{Kind: api.Store, At: at} }
func divide(at int) api.Site { return api.Site{Kind: api.Divide, At: at} }
func call(at int) api.Site   { return api.Site{Kind: api.Call, At: at} }

func TestKindsAndPlaces(t *testing.T) {
	for _, c := range []struct {
		text string
		want []api.Site
	}{
		{"fn main(){}", nil},
		{"arr a 2;fn main(x)where x<2,3<4{let y=x+x-x*x; y=-(y);out y;if x<y{}else{}while x>y{}return f(x);}fn f(x){}", nil},
		{"arr a 2;fn main(){out a[0];}", []api.Site{load(22)}},
		{"arr a 2;fn main(){a[0]=1;}", []api.Site{store(18)}},
		{"arr é 2;fn main(){é[é[1]]=é[0];}", []api.Site{store(19), load(22), load(29)}},
		{"fn main(x){out x/x;out x%x;}", []api.Site{divide(16), divide(24)}},
		{"fn main(x){out 1/2/3%4*5;}", []api.Site{divide(16), divide(18), divide(20)}},
		{"fn main(x){out (1/2)/(3%4);}", []api.Site{divide(17), divide(20), divide(23)}},
		{"fn main(x){out -x/-(x%-x);}", []api.Site{divide(17), divide(21)}},
		{"fn f(x)where x<1{}fn g(x){}fn main(){out f(g(f(1/1)));}", []api.Site{call(41), call(45), divide(48)}},
		{"fn f(x,y)where x<y{}fn main(){out f(1/2,3/4)/f(5%6,7%8);}", []api.Site{call(34), divide(37), divide(41), divide(44), call(45), divide(48), divide(52)}},
		{"fn main(){out f();}fn f()where 1<2{return f();}", []api.Site{call(14), call(42)}},
		{"arr a 9;fn main(x){if a[0]<1/x&&a[1]<2||a[2]!=3{a[3]=1;}else{out a[4];}}", []api.Site{load(22), divide(28), load(32), load(40), store(48), load(65)}},
		{"arr a 9;fn main(){while a[0]<a[1]{let x=a[2];x=a[3];return a[4];}}", []api.Site{load(24), load(29), load(40), load(47), load(59)}},
		{"fn f(x){return 1/x;}arr a 3;fn main(){a[1%2]=f(a[0]);}fn g(x){return x%1;}", []api.Site{divide(16), store(38), divide(41), load(47), divide(70)}},
	} {
		if got := number(t, c.text).Sites; !slices.Equal(got, c.want) {
			t.Errorf("P7: sites of %q: %v, want %v", c.text, got, c.want)
		}
	}
}

func TestPartsKnowTheirSites(t *testing.T) {
	program := number(t, "arr a 2;fn f(x)where x<1{}fn g(x){}fn main(x){a[x]=f(x);out g(x)+a[x]%x;}")
	body := program.Funcs[program.Main].Body
	set := body[0].(*tree.Store)
	sum := body[1].(*tree.Out).Value.(*tree.Binary)
	rest := sum.Right.(*tree.Binary)
	got := []int{set.Site, set.Value.(*tree.Call).Site, sum.Site, sum.Left.(*tree.Call).Site, rest.Left.(*tree.Element).Site, rest.Site}
	if want := []int{0, 1, api.None, api.None, 2, 3}; !slices.Equal(got, want) {
		t.Errorf("P7: %v, want %v", got, want)
	}
}
