package surefoot

import (
	"math/rand"
	"regexp"
	"slices"
	"strings"
	"testing"

	"surefoot/api"
)

// checkPrint wants the words of the text one by one, and gives what is printed.
func checkPrint(t *testing.T, text string) string {
	t.Helper()
	printed := mustRead(t, text).Print()
	if !strings.HasSuffix(printed, "\n") {
		t.Fatalf("P6: Print of %q: %q: no newline at the end", text, printed)
	}
	got := regexp.MustCompile(`[ \n]`).Split(printed[:len(printed)-1], -1)
	pieces, _ := oraclePieces(text)
	var want []string
	for _, p := range pieces {
		if last := len(p.text) - 1; classOf(p.text) == "NUMBER" {
			p.text = strings.TrimLeft(p.text[:last], "0") + p.text[last:]
		}
		want = append(want, p.text)
	}
	if !slices.Equal(got, want) {
		t.Fatalf("P6: Print of %q: %q", text, printed)
	}
	return printed
}

// checkSaysTheSame reads what is printed.
func checkSaysTheSame(t *testing.T, m *liveMaker, text string) {
	t.Helper()
	p := mustRead(t, text)
	printed := checkPrint(t, text)
	if len(printed) > api.MaxText {
		return
	}
	again := mustRead(t, printed)
	if got := again.Print(); got != printed {
		t.Fatalf("P6: Print of %q: %q, then %q", text, printed, got)
	}
	if p.Params() != again.Params() || letters(p.Sites()) != letters(again.Sites()) {
		t.Fatalf("P6: %q: %d, %v, but printed %d, %v", text, p.Params(), p.Sites(), again.Params(), again.Sites())
	}
	for range 3 {
		args, fuel := m.args(p.Params()), m.rand.Intn(500)
		if got, want := again.Walk(args, fuel), p.Walk(args, fuel); !sameResult(got, want) {
			t.Fatalf("P6: Walk of %q, %v, %d: %+v, but printed %+v", text, args, fuel, want, got)
		}
	}
}

func TestPrint(t *testing.T) {
	m := &liveMaker{rand: rand.New(rand.NewSource(7))}
	for _, text := range []string{
		"fn main(){}", "\n\n#1\nfn\tmain\r( ) { }#2", "fn main(){}#" + strings.Repeat("é", 1900), tableText, halfText, deepText,
		"arr a 064;fn f(x){}arr b 00001;fn main(){}fn g(){return f(g());}arr c 1;",
		"fn main(a,b)where-3<a,a!=-0,-0<=-1,b==7{return-a- -b;}",
		"fn main(a,b,c){return a-(b-c)-((a))--b- -(-c)+a*(b+c)/(a%b)%c*-a;}",
		"fn main(n){if n<1{}else{}if n<1{}if n>1{out 1;}else{if n==1{}else{out 2;}}while n!=n{}}",
		"fn main(n){if n<1||n>2&&n<=3||n>=4&&n==5&&n!=6{out 000;}while n<1&&n<2||n<3{}}",
		"arr é 9;fn ɏ(Àß,ö){é[ö]=Àß;return é[é[0]];}fn main(_){let zzzzzzzzzzzz=999999999;out ɏ(zzzzzzzzzzzz,_);}",
		"fn main(main){let f=main;main=f;f=main;}arr f 2;",
	} {
		checkSaysTheSame(t, m, text)
	}
}

func TestPrintOfRandomPrograms(t *testing.T) {
	m := &liveMaker{rand: rand.New(rand.NewSource(8))}
	whole := 0
	for range 1500 {
		text := m.program()
		checkSaysTheSame(t, m, text)
		if len(mustRead(t, text).Print()) <= api.MaxText {
			whole++
		}
	}
	if whole < 1000 {
		t.Errorf("only %d could be read again", whole)
	}
}

// TestPrintThatIsTooLong prints more than Read takes.
func TestPrintThatIsTooLong(t *testing.T) {
	text := "fn main(){return 1" + strings.Repeat("+1", (api.MaxText-20)/2) + ";}"
	printed := checkPrint(t, text)
	if len(printed) <= api.MaxText {
		t.Errorf("P6: Print of a text of %d bytes has %d", len(text), len(printed))
	}
}

func TestPrintOfNoProgram(t *testing.T) {
	for _, p := range []*Program{nil, {}} {
		if p.Print() != "" || p.Params() != 0 || len(p.Sites()) != 0 {
			t.Errorf("P1: of no program: %q, %d, %v", p.Print(), p.Params(), p.Sites())
		}
	}
}
