package words

import (
	"slices"
	"strings"
	"testing"
	"unsafe"

	"surefoot/api"
)

func kindsOf(t *testing.T, text string) []Kind {
	t.Helper()
	list, fault := Cut(text)
	if fault != (api.Fault{}) {
		t.Fatalf("P3: Cut(%q): %+v", text, fault)
	}
	var kinds []Kind
	for _, w := range list {
		kinds = append(kinds, w.Kind)
	}
	return kinds
}

func TestEachWordAlone(t *testing.T) {
	for text, kind := range map[string]Kind{
		"arr": Arr, "fn": Fn, "where": Where, "let": Let, "if": If, "else": Else, "while": While, "return": Return, "out": Out,
		"(": LeftRound, ")": RightRound, "{": LeftBrace, "}": RightBrace, "[": LeftSquare, "]": RightSquare, ",": Comma, ";": Semicolon,
		"=": Assign, "==": Equal, "!=": Unequal, "<": Less, "<=": AtMost, ">": Greater, ">=": AtLeast,
		"+": Plus, "-": Minus, "*": Times, "/": Divide, "%": Rest, "&&": And, "||": Or,
		"x": Name, "Arr": Name, "arrs": Name, "_": Name, "fn1": Name, "outé": Name, "0": Number, "007": Number,
	} {
		if got := kindsOf(t, text); !slices.Equal(got, []Kind{kind, End}) {
			t.Errorf("P3: kinds of %q: %v, want %v and End", text, got, kind)
		}
	}
}

func TestWordsAreAsLongAsCanBe(t *testing.T) {
	for text, want := range map[string][]Kind{
		"===":        {Equal, Assign},
		"<==":        {AtMost, Assign},
		">>==":       {Greater, AtLeast, Assign},
		"= =":        {Assign, Assign},
		"!==":        {Unequal, Assign},
		"&&&&":       {And, And},
		"12ab34":     {Number, Name},
		"ab 12":      {Name, Number},
		"let#x\nlet": {Let, Let},
		"a#b":        {Name},
		"(a)":        {LeftRound, Name, RightRound},
		"1-1":        {Number, Minus, Number},
		"":           {},
		"# ( \ufffd": {},
		"\t\n\r ":    {},
	} {
		if got := kindsOf(t, text); !slices.Equal(got, append(want, End)) {
			t.Errorf("P3: kinds of %q: %v, want %v and End", text, got, want)
		}
	}
}

func TestPlacesAreBytes(t *testing.T) {
	got, fault := Cut("é1 # λ\n<= 0042ɏ")
	want := []Word{{Name, 0, "é1", 0}, {AtMost, 9, "", 0}, {Number, 12, "", 42}, {Name, 16, "ɏ", 0}, {End, 18, "", 0}}
	if fault != (api.Fault{}) || !slices.Equal(got, want) {
		t.Errorf("P3: %v, %+v, want %v", got, fault, want)
	}
}

func TestLetters(t *testing.T) {
	ascii := "abcdefghijklmnopqrstuvwxyzABCDEFGHIJKLMNOPQRSTUVWXYZ_"
	for r := rune(0x80); r < 0x3000; r++ {
		want := r >= 0xC0 && r <= 0x24F && r != '×' && r != '÷'
		if _, fault := Cut(string(r)); (fault == api.Fault{}) != want {
			t.Errorf("P3: %q (%x) as a letter: %+v", r, r, fault)
		}
	}
	for r := rune(0); r < 0x80; r++ {
		list, fault := Cut(string(r))
		isName := fault == api.Fault{} && list[0].Kind == Name
		if isName != strings.ContainsRune(ascii, r) {
			t.Errorf("P3: %q as a letter: %v %+v", r, list, fault)
		}
	}
}

func TestBlanksAndCommentsHoldEveryByte(t *testing.T) {
	for b := range 256 {
		text := string([]byte{'#', byte(b), 'x'})
		_, fault := Cut(text)
		want := api.Fault{}
		if b >= 0x80 {
			want = api.Fault{Code: api.ErrText, At: 1}
		}
		if fault != want {
			t.Errorf("P3: Cut(%q): %+v, want %+v", text, fault, want)
		}
	}
}

func TestFaults(t *testing.T) {
	for _, c := range []struct {
		text string
		code api.Errno
		at   int
	}{
		{strings.Repeat(" ", api.MaxText+1), api.ErrText, 0},
		{"1000000000" + strings.Repeat(" ", api.MaxText), api.ErrText, 0},
		{"!", api.ErrText, 0}, {"1 ! 2", api.ErrText, 2}, {"a&b", api.ErrText, 1}, {"a|", api.ErrText, 1}, {"|&", api.ErrText, 0},
		{"&&&", api.ErrText, 2}, {"!=!", api.ErrText, 2}, {"\x00", api.ErrText, 0}, {"a.", api.ErrText, 1}, {"\"", api.ErrText, 0},
		{"x\v", api.ErrText, 1}, {"x\f", api.ErrText, 1}, {"x\u00a0", api.ErrText, 1}, {"\ufeffx", api.ErrText, 0}, {"\ufffd", api.ErrText, 0},
		{"a×b", api.ErrText, 1}, {"a÷", api.ErrText, 1}, {"aλ", api.ErrText, 1}, {"٣", api.ErrText, 0}, {"e\u0301", api.ErrText, 1},
		{"\xff", api.ErrText, 0}, {"é\xc3", api.ErrText, 2}, {"# \xc3\n", api.ErrText, 2}, {"#\xef\xbf", api.ErrText, 1},
		{"\xc0\xaf", api.ErrText, 0}, {"#\xc0\xaf", api.ErrText, 1}, {"#\xed\xa0\x80", api.ErrText, 1}, {"#\xf4\x90\x80\x80", api.ErrText, 1},
		{"#\ufffd\xef", api.ErrText, 4},
		{"abcdefghijklm", api.ErrText, 0}, {" a234567890123 !", api.ErrText, 1}, {strings.Repeat("é", 13) + "\xff", api.ErrText, 0},
		{"1000000000", api.ErrNumber, 0}, {"x 00001000000000", api.ErrNumber, 2}, {strings.Repeat("9", 4000), api.ErrNumber, 0},
		{"18446744073709551617", api.ErrNumber, 0}, {"1000000000 !", api.ErrNumber, 0}, {"! 1000000000", api.ErrText, 0},
		{"1000000000abcdefghijklm", api.ErrNumber, 0}, {"1000000000\xff", api.ErrNumber, 0},
	} {
		list, fault := Cut(c.text)
		if list != nil || fault != (api.Fault{Code: c.code, At: c.at}) {
			t.Errorf("P3: Cut(%.60q): %v, %+v, want %d at %d", c.text, list, fault, c.code, c.at)
		}
	}
}

func TestEdgesThatHold(t *testing.T) {
	for _, text := range []string{
		strings.Repeat(" ", api.MaxText), strings.Repeat("=", api.MaxText), "abcdefghijkl", strings.Repeat("é", 12), "a23456789012", "999999999", strings.Repeat("0", 3000) + "999999999",
	} {
		if _, fault := Cut(text); fault != (api.Fault{}) {
			t.Errorf("P3: Cut(%.60q): %+v", text, fault)
		}
	}
}

func TestTextIsNotKept(t *testing.T) {
	text := "let name = other;"
	first := uintptr(unsafe.Pointer(unsafe.StringData(text)))
	list, _ := Cut(text)
	for _, w := range list {
		at := uintptr(unsafe.Pointer(unsafe.StringData(w.Text)))
		if w.Text != "" && at >= first && at < first+uintptr(len(text)) {
			t.Errorf("P2: the word %q is a piece of the text", w.Text)
		}
	}
}
