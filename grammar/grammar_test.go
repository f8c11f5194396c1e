package grammar

import (
	"strconv"
	"strings"
	"testing"

	"surefoot/api"
	"surefoot/tree"
	"surefoot/words"
)

func parse(t *testing.T, text string) (*tree.Program, api.Fault) {
	t.Helper()
	list, fault := words.Cut(text)
	if fault != (api.Fault{}) {
		t.Fatalf("Cut(%q): %+v", text, fault)
	}
	return Parse(list)
}

func opText(kind words.Kind) string {
	return map[words.Kind]string{
		words.Plus: "+", words.Minus: "-", words.Times: "*", words.Divide: "/", words.Rest: "%", words.And: "&&", words.Or: "||",
		words.Less: "<", words.AtMost: "<=", words.Greater: ">", words.AtLeast: ">=", words.Equal: "==", words.Unequal: "!=",
	}[kind]
}

// showExpr writes an expression with a pair of brackets around each operator, and square ones for brackets of the text.
func showExpr(expr tree.Expr) string {
	switch e := expr.(type) {
	case *tree.Number:
		return strconv.FormatInt(e.Value, 10)
	case *tree.Variable:
		return e.Name.Text
	case *tree.Element:
		return e.Array.Text + "@" + showExpr(e.Index)
	case *tree.Call:
		var args []string
		for _, a := range e.Args {
			args = append(args, showExpr(a))
		}
		return e.Func.Text + "{" + strings.Join(args, ",") + "}"
	case *tree.Bracket:
		return "[" + showExpr(e.Inner) + "]"
	case *tree.Negate:
		return "~" + showExpr(e.Inner)
	case *tree.Binary:
		return "(" + showExpr(e.Left) + opText(e.Op) + showExpr(e.Right) + ")"
	}
	return "?"
}

func showCond(cond tree.Cond) string {
	switch c := cond.(type) {
	case *tree.Compare:
		return showExpr(c.Left) + opText(c.Op) + showExpr(c.Right)
	case *tree.Logic:
		return "(" + showCond(c.Left) + opText(c.Op) + showCond(c.Right) + ")"
	}
	return "?"
}

func showBlock(body []tree.Stmt) string {
	out := "{"
	for _, stmt := range body {
		switch s := stmt.(type) {
		case *tree.Set:
			out += map[bool]string{true: "let "}[s.IsLet] + s.Var.Text + "=" + showExpr(s.Value) + ";"
		case *tree.Store:
			out += s.Array.Text + "@" + showExpr(s.Index) + "=" + showExpr(s.Value) + ";"
		case *tree.If:
			out += "if " + showCond(s.Cond) + showBlock(s.Then) + showBlock(s.Else)
		case *tree.While:
			out += "while " + showCond(s.Cond) + showBlock(s.Body)
		case *tree.Return:
			out += "return " + showExpr(s.Value) + ";"
		case *tree.Out:
			out += "out " + showExpr(s.Value) + ";"
		}
	}
	return out + "}"
}

func show(program *tree.Program) string {
	out := ""
	for _, item := range program.Items {
		switch it := item.(type) {
		case *tree.Array:
			out += "arr " + it.Name.Text + " " + strconv.Itoa(it.Length) + ";"
		case *tree.Func:
			out += "fn " + it.Name.Text
			for _, p := range it.Params {
				out += " " + p.Text
			}
			for _, w := range it.Wheres {
				out += " " + showCond(w)
			}
			out += showBlock(it.Body)
		}
	}
	return out
}

func TestTrees(t *testing.T) {
	for text, want := range map[string]string{
		"":                                     "",
		"fn main(){}":                          "fn main{}",
		"fn f(x, y){}":                         "fn f x y{}",
		"arr a 007; fn f(){} arr b 999999999;": "arr a 7;fn f{}arr b 999999999;",
		"fn f(x) where x<-3, - 1 >= 2, x != x {}":   "fn f x x<-3 -1>=2 x!=x{}",
		"fn f(){return 1-2-3;}":                     "fn f{return ((1-2)-3);}",
		"fn f(){return 1+2*3%4/5-6;}":               "fn f{return ((1+(((2*3)%4)/5))-6);}",
		"fn f(){return - x*-(y-z);}":                "fn f{return (~x*~[(y-z)]);}",
		"fn f(){return --1;}":                       "fn f{return ~~1;}",
		"fn f(){return ((1));}":                     "fn f{return [[1]];}",
		"fn f(){return a[b[1]+1]*g()*h(1,(x),-2);}": "fn f{return ((a@(b@1+1)*g{})*h{1,[x],~2});}",
		"fn f(){let x=1; x=x; a[x]=x; out x;}":      "fn f{let x=1;x=x;a@x=x;out x;}",
		"fn f(){if 1<2||3<=4&&5>6||7>=8{out 1;}}":   "fn f{if ((1<2||(3<=4&&5>6))||7>=8){out 1;}{}}",
		"fn f(){if 1==2&&3!=4&&5<6{}else{out 2;}}":  "fn f{if ((1==2&&3!=4)&&5<6){}{out 2;}}",
		"fn f(){while x<9{while 1<2{}} return 0;}":  "fn f{while x<9{while 1<2{}}return 0;}",
	} {
		program, fault := parse(t, text)
		if fault != (api.Fault{}) {
			t.Errorf("P4: %q: %+v", text, fault)
		} else if got := show(program); got != want {
			t.Errorf("P4: %q: %s, want %s", text, got, want)
		}
	}
}

func TestPlacesInTheTree(t *testing.T) {
	program, _ := parse(t, "fn f(x) where 1<x { out a[1 / x]; out f(2 % 3); }")
	f := program.Items[0].(*tree.Func)
	element := f.Body[0].(*tree.Out).Value.(*tree.Element)
	call := f.Body[1].(*tree.Out).Value.(*tree.Call)
	got := []int{f.Name.At, f.Params[0].At, f.Wheres[0].At, element.Array.At, element.Index.(*tree.Binary).At, call.Func.At, call.Args[0].(*tree.Binary).At}
	for i, want := range []int{3, 5, 14, 24, 28, 38, 42} {
		if got[i] != want {
			t.Errorf("P4: place %d: %d, want %d", i, got[i], want)
		}
	}
}

func refuses(t *testing.T, text string, code api.Errno, at int) {
	t.Helper()
	if program, fault := parse(t, text); program != nil || fault != (api.Fault{Code: code, At: at}) {
		t.Errorf("P4: %q: %v, %+v, want %d at %d", text, program, fault, code, at)
	}
}

func TestWordsThatCannotStand(t *testing.T) {
	for _, c := range []struct {
		text string
		at   int
	}{
		{"1", 0}, {"main", 0}, {";", 0}, {"fn main( { }", 9}, {"arr a[3];", 5}, {"arr a 3,", 7}, {"arr fn 3;", 4}, {"arr a b;", 6},
		{"fn f(1){}", 5}, {"fn f(x,){}", 7}, {"fn f(x;){}", 6}, {"fn f((x)){}", 5}, {"fn f;", 4}, {"fn f() f", 7}, {"fn f(let){}", 5},
		{"fn f(x) where x {}", 16}, {"fn f(x) where {}", 14}, {"fn f(x) where (x)<1 {}", 14}, {"fn f(x) where x<1,{}", 18}, {"fn f(x) where x=1 {}", 15}, {"fn f(x) where --1<x {}", 15}, {"fn f(x) where -x<1 {}", 15}, {"fn f(x) where x<1*2 {}", 17}, {"fn f(x) where x<y<1 {}", 17}, {"fn f() where where {}", 13},
		{"fn f(){return;}", 13}, {"fn f(){f();}", 8}, {"fn f(){x+1;}", 8}, {"fn f(){(x)=1;}", 7}, {"fn f(){x[1];}", 11}, {"fn f(){x[1]==1;}", 11}, {"fn f(){let x[1]=1;}", 12}, {"fn f(){let let=1;}", 11}, {"fn f(){arr a 1;}", 7}, {"fn f(){where 1<2{}}", 7},
		{"fn f(){if 1<2{}else if 1<2{}}", 20}, {"fn f(){if 1<2{}else{}else{}}", 21}, {"fn f(){while 1<2{}else{}}", 18}, {"fn f(){if 1{}}", 11}, {"fn f(){if (1<2){}}", 12}, {"fn f(){if 1<2||{}}", 15}, {"fn f(){if 1<2 3<4{}}", 14}, {"fn f(){if 1=2{}}", 11}, {"fn f(){if -{}}", 11},
		{"fn f(){x=1+*2;}", 11}, {"fn f(){x=+1;}", 9}, {"fn f(){x=1--;}", 12}, {"fn f(){x=(1;}", 11}, {"fn f(){x=1);}", 10}, {"fn f(){x=a[1);}", 12}, {"fn f(){x=f(1];}", 12}, {"fn f(){x=f(,1);}", 11}, {"fn f(){x=f(1,,2);}", 13}, {"fn f(){x=f(1 2);}", 13}, {"fn f(){x=a[1,2];}", 12}, {"fn f(){x=a[1][2];}", 13}, {"fn f(){x=1(2);}", 10}, {"fn f(){x=1<2;}", 10}, {"fn f(){x=y=1;}", 10}, {"fn f(){x=1;;}", 11}, {"fn f(){}}", 8}, {"fn f(){};", 8}, {"fn f(){x=else;}", 9},
	} {
		refuses(t, c.text, api.ErrSyntax, c.at)
	}
}

func TestMissingWords(t *testing.T) {
	whole := strings.Fields("arr a 1 ; fn f ( x , y ) where - 1 < x , y == 2 { let z = - f ( ( 1 ) , a [ 0 ] ) ; if 1 < 2 && 3 < 4 || z > 1 { out 1 ; } else { a [ 1 ] = 2 ; } while 1 != 2 { return 3 % 4 ; } }")
	const array = 4 // so many words are a whole program already
	for n := range whole {
		if n == 0 || n == array {
			continue
		}
		begun := strings.Join(whole[:n], " ")
		refuses(t, begun, api.ErrSyntax, len(begun))
		refuses(t, begun+"# more \n", api.ErrSyntax, len(begun)+8)
	}
	for _, text := range []string{"", strings.Join(whole[:array], " "), strings.Join(whole, " ")} {
		if _, fault := parse(t, text); fault != (api.Fault{}) {
			t.Errorf("P4: %q: %+v", text, fault)
		}
	}
}

func TestDepth(t *testing.T) {
	repeat := strings.Repeat
	for _, text := range []string{
		"fn f(){x=" + repeat("(", 9) + "1" + repeat(")", 9) + "-(1);}",
		"fn f(){x=" + repeat("-", 9) + "1-1-1-" + repeat("-", 9) + "1;}",
		"fn f(){x=" + repeat("-(", 4) + "-1" + repeat(")", 4) + "*-1*-(-1);}",
		"fn f(){x=" + repeat("a[", 9) + "1" + repeat("]", 9) + "+a[1];}",
		"fn f(){x=" + repeat("f(", 9) + repeat(")", 9) + "+f();}",
		"fn f(){a[" + repeat("(", 8) + "1" + repeat(")", 8) + "]=" + repeat("(", 9) + "1" + repeat(")", 9) + ";}",
		"fn f()where -1<-2,-1<-2,-1<-2,-1<-2,-1<-2,-1<-2{" + repeat("if 1<2{", 9) + repeat("}else{}", 9) + "}",
		repeat("fn f(){while 1<2{}}", 20),
	} {
		if _, fault := parse(t, text); fault != (api.Fault{}) {
			t.Errorf("P4: %q: %+v", text, fault)
		}
	}
	for _, c := range []struct {
		text string
		at   int
	}{
		{"fn f(){x=" + repeat("(", 10), 18},
		{"fn f(){x=" + repeat("-", 10), 18},
		{"fn f(){x=1" + repeat("-", 11), 20},
		{"fn f(){x=" + repeat("-(", 4) + "--1", 18},
		{"fn f(){x=" + repeat("a[", 10), 28},
		{"fn f(){x=" + repeat("f(", 10), 28},
		{"fn f(){a[" + repeat("(", 9), 17},
		{"fn f(){" + repeat("while 1<2{", 10), 106},
		{"fn f(){" + repeat("if 1<2{", 8) + "if 1<2{}else{if 1<2{", 82},
		{"fn f(){" + repeat("if 1<2{", 9) + "a[", 71},
	} {
		refuses(t, c.text, api.ErrDeep, c.at)
	}
	// A bracket that cannot stand there opens nothing.
	refuses(t, "fn f(){x="+repeat("(", 9)+"1(", api.ErrSyntax, 19)
	refuses(t, "fn f(){x="+repeat("(", 9)+"{", api.ErrSyntax, 18)
	refuses(t, "fn f(){x="+repeat("(", 9)+"1-1;", api.ErrSyntax, 21)
}
