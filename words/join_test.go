package words

import (
	"strings"
	"testing"
)

func TestJoin(t *testing.T) {
	for _, c := range []struct{ text, want string }{
		{"fn main(){}", "fn main ( ) {\n}\n"},
		{"  fn\tmain\r\n(\n) { } #more\n#", "fn main ( ) {\n}\n"},
		{"arr a 007;arr é 64;", "arr a 7 ;\narr é 64 ;\n"},
		{"fn f(x,y)where-3<x,x<=y,x!=-0{}", "fn f ( x , y ) where - 3 < x , x <= y , x != - 0 {\n}\n"},
		{"if x<1{}else{out--x;}", "if x < 1 {\n} else {\nout - - x ;\n}\n"},
		{"while x==1&&y>=2||z>3{let a=b[c]*(d/e)%f(0);}", "while x == 1 && y >= 2 || z > 3 {\nlet a = b [ c ] * ( d / e ) % f ( 0 ) ;\n}\n"},
		{"return 1+2-999999999;", "return 1 + 2 - 999999999 ;\n"},
	} {
		list, fault := Cut(c.text)
		if list == nil {
			t.Fatalf("Cut(%q): %+v", c.text, fault)
		}
		if got := Join(list); got != c.want {
			t.Errorf("P6: Join of %q: %q, want %q", c.text, got, c.want)
		}
	}
}

// TestJoinHasEachWord has every word there is, each behind each.
func TestJoinHasEachWord(t *testing.T) {
	all := []Word{{Kind: Name, Text: "x"}, {Kind: Number, Value: 12}}
	for kind := Arr; kind <= lastSign; kind++ {
		all = append(all, Word{Kind: kind})
	}
	for _, a := range all {
		for _, b := range all {
			text := Join([]Word{a, b, {Kind: End}})
			list, _ := Cut(text)
			if len(list) != 3 || list[0].Kind != a.Kind || list[1].Kind != b.Kind || list[0].Text != a.Text || list[1].Value != b.Value || len(text) != len(a.spelling())+len(b.spelling())+2 {
				t.Errorf("P6: Join of %v and %v: %q", a, b, text)
			}
			if strings.Trim(text[len(a.spelling()):len(a.spelling())+1], " \n") != "" {
				t.Errorf("P6: Join of %v and %v: %q: nothing between", a, b, text)
			}
		}
	}
}
