package surefoot

import (
	"math/rand"
	"regexp"
	"strconv"
	"strings"
	"testing"
	"unicode/utf8"

	"surefoot/api"
)

// The oracle reads programs in another way than the program does: words by a pattern, the grammar by a table of rules, names by going through the words. Random programs, and ones with something wrong in them, must have the same fault from both.

type piece struct {
	text string
	at   int
}

var wordPattern = regexp.MustCompile(`^(?:[\t\n\r ]+|#[^\n]*|[a-zA-Z_\x{C0}-\x{D6}\x{D8}-\x{F6}\x{F8}-\x{24F}][0-9a-zA-Z_\x{C0}-\x{D6}\x{D8}-\x{F6}\x{F8}-\x{24F}]*|[0-9]+|&&|\|\||[=!<>]=|[=<>(){}\[\],;+*/%-])`)

func oraclePieces(text string) ([]piece, api.Fault) {
	if len(text) > 4000 {
		return nil, api.Fault{Code: api.ErrText}
	}
	var pieces []piece
	for at := 0; at < len(text); {
		found := wordPattern.FindString(text[at:])
		if found == "" {
			return nil, api.Fault{Code: api.ErrText, At: at}
		}
		switch {
		case found[0] == '#':
			for i := 0; i < len(found); {
				_, size := utf8.DecodeRuneInString(found[i:])
				if size == 1 && found[i] >= 0x80 {
					return nil, api.Fault{Code: api.ErrText, At: at + i}
				}
				i += size
			}
		case strings.ContainsAny(found[:1], "\t\n\r "):
		case classOf(found) == "NAME" && len([]rune(found)) > 12:
			return nil, api.Fault{Code: api.ErrText, At: at}
		case classOf(found) == "NUMBER" && len(strings.TrimLeft(found, "0")) > 9:
			return nil, api.Fault{Code: api.ErrNumber, At: at}
		default:
			pieces = append(pieces, piece{found, at})
		}
		at += len(found)
	}
	return pieces, api.Fault{}
}

func classOf(text string) string {
	if strings.Contains(" arr fn where let if else while return out ", " "+text+" ") {
		return text
	}
	if '0' <= text[0] && text[0] <= '9' {
		return "NUMBER"
	}
	if text[0] >= 0x80 || text[0] == '_' || 'a' <= text[0]|32 && text[0]|32 <= 'z' {
		return "NAME"
	}
	return text
}

// grammarRules are the document's. The first way of each is the one that ends soonest. What ^ stands ahead of is open from there on till the next lone v.
var grammarRules = map[string][]string{
	"program": {"", "item program"},
	"item":    {"fn NAME ^( params ) v wheres block", "arr NAME NUMBER ;"},
	"params":  {"", "NAME params2"},
	"params2": {"", ", NAME params2"},
	"wheres":  {"", "where rel rels"},
	"rels":    {"", ", rel rels"},
	"rel":     {"atom OP atom"},
	"atom":    {"NAME", "NUMBER", "- NUMBER"},
	"OP":      {"<", "<=", ">", ">=", "==", "!="},
	"block":   {"^{ stmts } v"},
	"stmts":   {"", "stmt stmts", "stmt stmts"},
	"stmt":    {"out expr ;", "let NAME = expr ;", "NAME set", "if cond block other", "while cond block", "return expr ;"},
	"set":     {"= expr ;", "^[ expr ] v = expr ;"},
	"other":   {"", "else block"},
	"cond":    {"conj conds"},
	"conds":   {"", "|| conj conds"},
	"conj":    {"comp conjs"},
	"conjs":   {"", "&& comp conjs"},
	"comp":    {"expr OP expr"},
	"expr":    {"term terms"},
	"terms":   {"", "+ term terms", "- term terms"},
	"term":    {"factor factors"},
	"factors": {"", "* factor factors", "/ factor factors", "% factor factors"},
	"factor":  {"NUMBER", "NAME more", "^( expr ) v", "^- factor v"},
	"more":    {"", "^[ expr ] v", "^( args ) v"},
	"args":    {"", "expr args2"},
	"args2":   {"", ", expr args2"},
}

// stepOver gives what must stand behind a word of this class, where stack must stand, and how many are open then.
func stepOver(stack []string, nest int, class string) ([]string, int, bool) {
	if len(stack) == 0 {
		return nil, nest, class == "END"
	}
	top, below := stack[0], stack[1:]
	if top == "v" {
		return stepOver(below, nest-1, class)
	}
	for _, way := range grammarRules[top] {
		if rest, n, ok := stepOver(append(strings.Fields(way), below...), nest, class); ok {
			return rest, n, true
		}
	}
	if grammarRules[top] == nil && strings.TrimPrefix(top, "^") == class {
		if top[0] == '^' {
			nest++
		}
		return below, nest, true
	}
	return nil, nest, false
}

func oracleSyntax(pieces []piece, end int) api.Fault {
	stack, nest, ok := []string{"program"}, 0, true
	for _, p := range pieces {
		stack, nest, ok = stepOver(stack, nest, classOf(p.text))
		if !ok {
			return api.Fault{Code: api.ErrSyntax, At: p.at}
		}
		if nest > 10 {
			return api.Fault{Code: api.ErrDeep, At: p.at}
		}
	}
	if _, _, ok := stepOver(stack, nest, "END"); !ok {
		return api.Fault{Code: api.ErrSyntax, At: end}
	}
	return api.Fault{}
}

// oracleNames collects the faults of the names, of which the first one counts.
type oracleNames struct {
	pieces []piece
	kinds  map[string]string // arr or fn: what a name is first
	params map[string]int    // of the first function of a name
	worst  api.Fault
}

func (o *oracleNames) fault(wrong bool, code api.Errno, i int) {
	at := o.pieces[i].at
	if wrong && (o.worst.Code == api.OK || at < o.worst.At || at == o.worst.At && code < o.worst.Code) {
		o.worst = api.Fault{Code: code, At: at}
	}
}

func (o *oracleNames) is(i int, text string) bool {
	return i >= 0 && i < len(o.pieces) && o.pieces[i].text == text
}

// count tells how many stand between the bracket at i and its other one.
func (o *oracleNames) count(i int) int {
	if o.is(i+1, ")") {
		return 0
	}
	n, open := 1, 0
	for ; ; i++ {
		switch o.pieces[i].text {
		case "(", "[":
			open++
		case ")", "]":
			open--
		case ",":
			if open == 1 {
				n++
			}
		}
		if open == 0 {
			return n
		}
	}
}

func (o *oracleNames) items() {
	counts := map[string]int{}
	for i, p := range o.pieces {
		if p.text != "arr" && p.text != "fn" {
			continue
		}
		name := o.pieces[i+1].text
		counts[p.text]++
		o.fault(o.kinds[name] != "", api.ErrName, i+1)
		o.fault(p.text == "arr" && counts["arr"] > 6 || p.text == "fn" && counts["fn"] > 8, api.ErrCount, i+1)
		if p.text == "arr" {
			length, _ := strconv.Atoi(o.pieces[i+2].text)
			o.fault(length == 0 || length > 64, api.ErrCount, i+2)
		}
		if o.kinds[name] == "" {
			o.kinds[name] = p.text
			if p.text == "fn" {
				o.params[name] = o.count(i + 2)
			}
		}
	}
}

// function goes through the words from the one behind fn up to the next item.
func (o *oracleNames) function(from, to int) {
	there := map[string]bool{} // what may be named
	known := map[string]bool{} // what may not be named anew
	part, wheres, pending := "params", 0, ""
	for i := from + 1; i < to; i++ {
		text := o.pieces[i].text
		isName := classOf(text) == "NAME"
		switch {
		case part != "body" && text == "where":
			part = "where"
			wheres = 1
		case part == "where" && text == ",":
			wheres++
		case part != "body" && text == "{":
			part = "body"
		case text == ";" && pending != "":
			there[pending] = true
			pending = ""
		case isName && (part == "params" || o.is(i-1, "let")):
			most := map[string]int{"params": 4, "body": 12}[part]
			o.fault(known[text], api.ErrName, i)
			o.fault(len(known) >= most, api.ErrCount, i)
			known[text] = true
			if part == "params" {
				there[text] = true
			} else {
				pending = text
			}
		case isName && o.is(i+1, "["):
			o.fault(o.kinds[text] != "arr", api.ErrName, i)
		case isName && o.is(i+1, "("):
			o.fault(o.kinds[text] != "fn", api.ErrName, i)
			o.fault(o.kinds[text] == "fn" && o.params[text] != o.count(i+1), api.ErrCount, i)
		case isName:
			o.fault(!there[text], api.ErrName, i)
		}
		if part == "where" && wheres == 5 && (o.is(i-1, ",") || o.is(i-1, "where")) {
			o.fault(true, api.ErrCount, i)
		}
	}
}

// oracleRead gives the fault that Read must tell.
func oracleRead(text string) api.Fault {
	pieces, fault := oraclePieces(text)
	if fault != (api.Fault{}) {
		return fault
	}
	if fault = oracleSyntax(pieces, len(text)); fault != (api.Fault{}) {
		return fault
	}
	o := oracleNames{pieces: pieces, kinds: map[string]string{}, params: map[string]int{}}
	o.items()
	for i := 0; i < len(pieces); i++ {
		if pieces[i].text != "fn" {
			continue
		}
		to := i + 1
		for to < len(pieces) && !o.is(to, "fn") && !o.is(to, "arr") {
			to++
		}
		o.function(i+1, to)
	}
	if o.worst.Code == api.OK && o.kinds["main"] != "fn" {
		return api.Fault{Code: api.ErrName, At: len(text)}
	}
	return o.worst
}

// maker makes random words by the rules: no more than some words, then it comes to an end.
type maker struct {
	rand  *rand.Rand
	words []string
	most  int
}

func (m *maker) make(symbol string) {
	ways := grammarRules[symbol]
	switch {
	case symbol == "v":
	case symbol == "NAME":
		m.words = append(m.words, m.name())
	case symbol == "NUMBER":
		m.words = append(m.words, []string{"0", "1", "2", "64", "65", "007", "999999999"}[m.rand.Intn(7)])
	case ways == nil:
		m.words = append(m.words, strings.TrimPrefix(symbol, "^"))
	case len(m.words) > m.most:
		m.makeAll(ways[0])
	default:
		m.makeAll(ways[m.rand.Intn(len(ways))])
	}
}

func (m *maker) makeAll(way string) {
	for _, symbol := range strings.Fields(way) {
		m.make(symbol)
	}
}

func (m *maker) name() string {
	return []string{"main", "f", "g", "a", "b", "x", "y", "z", "é", "main2", "k", "l", "m", "n", "o", "p"}[m.rand.Intn(16)]
}

func (m *maker) anyWord() string {
	all := strings.Fields("arr fn where let if else while return out ( ) { } [ ] , ; = == != < <= > >= + - * / % && || x 1 main f ( ) { - [")
	return all[m.rand.Intn(len(all))]
}

// spoil changes the words at one place.
func (m *maker) spoil(words []string) []string {
	i := m.rand.Intn(len(words) + 1)
	out := append([]string{}, words[:i]...)
	switch m.rand.Intn(3) {
	case 0:
		out = append(out, m.anyWord())
	case 1:
		out = append(out, strings.Fields(strings.Repeat("( ", m.rand.Intn(12))+strings.Repeat("- ", m.rand.Intn(3)))...)
	case 2:
		i = min(i+1, len(words))
	}
	return append(out, words[i:]...)
}

func agree(t *testing.T, text string) api.Fault {
	t.Helper()
	want := oracleRead(text)
	p, got := Read(text)
	if got != want || (p != nil) != (want == api.Fault{}) {
		t.Fatalf("P3 to P5: Read(%q): %v %+v, want %+v", text, p != nil, got, want)
	}
	return got
}

// mend changes the word where the fault is, if names or counts are wrong there.
func (m *maker) mend(words []string, text string, fault api.Fault) bool {
	if fault.Code != api.ErrName && fault.Code != api.ErrCount || fault.At == len(text) {
		return false
	}
	i := strings.Count(text[:fault.At], " ")
	if classOf(words[i]) == "NUMBER" {
		words[i] = "5"
		return true
	}
	words[i] = m.name()
	return true
}

func TestReadAgreesWithTheOracle(t *testing.T) {
	m := maker{rand: rand.New(rand.NewSource(1))}
	seen := map[api.Errno]int{}
	for range 2000 {
		m.words, m.most = nil, m.rand.Intn(150)
		m.makeAll("item program")
		m.words = append(m.words, "fn", "main", "(", ")", "{", "}")
		for range 40 {
			text := strings.Join(m.words, " ")
			fault := agree(t, text)
			seen[fault.Code]++
			if !m.mend(m.words, text, fault) {
				break
			}
		}
		for range 5 {
			seen[agree(t, strings.Join(m.spoil(m.words), " ")).Code]++
		}
	}
	for _, code := range []api.Errno{api.OK, api.ErrSyntax, api.ErrName, api.ErrCount, api.ErrDeep} {
		if seen[code] < 200 {
			t.Errorf("only %d of %d with the error %d", seen[code], seen, code)
		}
	}
}

func TestReadAgreesOnRandomCharacters(t *testing.T) {
	m := maker{rand: rand.New(rand.NewSource(2))}
	bits := []string{"fn", " ", "\n", "#", "é", "ɏ", "ɐ", "×", "\xc3", "\x80", "\xef\xbf\xbd", "=", "!", "<", "&", "&&", "|", "(", "a", "Z", "_", "9", "0", "123456", "abcde", "."}
	seen := map[api.Errno]int{}
	for range 40000 {
		text := ""
		for range m.rand.Intn(8) {
			text += bits[m.rand.Intn(len(bits))]
		}
		seen[agree(t, text).Code]++
	}
	for _, code := range []api.Errno{api.ErrText, api.ErrNumber, api.ErrSyntax} {
		if seen[code] < 50 {
			t.Errorf("only %d of %d with the error %d", seen[code], seen, code)
		}
	}
}
