// Package words cuts the text of a program into words.
package words

import (
	"strings"
	"unicode/utf8"

	"surefoot/api"
)

// Kind tells which word a word is.
type Kind int

const (
	End Kind = iota // stands behind the last word
	Name
	Number
	Arr
	Fn
	Where
	Let
	If
	Else
	While
	Return
	Out
	LeftRound
	RightRound
	LeftBrace
	RightBrace
	LeftSquare
	RightSquare
	Comma
	Semicolon
	Assign
	Equal
	Unequal
	Less
	AtMost
	Greater
	AtLeast
	Plus
	Minus
	Times
	Divide
	Rest
	And
	Or
)

const (
	firstSign = LeftRound
	lastSign  = Or
)

var spellings = [...]string{
	Arr: "arr", Fn: "fn", Where: "where", Let: "let", If: "if", Else: "else", While: "while", Return: "return", Out: "out",
	LeftRound: "(", RightRound: ")", LeftBrace: "{", RightBrace: "}", LeftSquare: "[", RightSquare: "]", Comma: ",", Semicolon: ";",
	Assign: "=", Equal: "==", Unequal: "!=", Less: "<", AtMost: "<=", Greater: ">", AtLeast: ">=",
	Plus: "+", Minus: "-", Times: "*", Divide: "/", Rest: "%", And: "&&", Or: "||",
}

// Word is a word and the byte at which it begins.
type Word struct {
	Kind  Kind
	At    int
	Text  string // of a Name
	Value int64  // of a Number
}

// What a cutter can be in the midst of.
const (
	nothing = iota
	remark
	name
	number
	sign
)

type cutter struct {
	text  string
	words []Word
	fault api.Fault
	in    int // the midst of what
	from  int // where that began
}

// Cut gives the words of a text, with an End behind them, or the first fault.
func Cut(text string) ([]Word, api.Fault) {
	if len(text) > api.MaxText {
		return nil, api.Fault{Code: api.ErrText}
	}
	c := cutter{text: text}
	for at, r := range text {
		if c.goesOn(at, r) {
			continue
		}
		c.finish(at)
		c.begin(at, r)
		if c.fault.Code != api.OK {
			return nil, c.fault
		}
	}
	c.finish(len(text))
	if c.fault.Code != api.OK {
		return nil, c.fault
	}
	return append(c.words, Word{Kind: End, At: len(text)}), api.Fault{}
}

func (c *cutter) fail(code api.Errno, at int) {
	if c.fault.Code == api.OK {
		c.fault = api.Fault{Code: code, At: at}
	}
}

// goesOn tells whether the character is part of what the cutter is in the midst of.
func (c *cutter) goesOn(at int, r rune) bool {
	switch c.in {
	case remark:
		return r != '\n' && !c.isBroken(at, r)
	case name:
		return isLetter(r) || isDigit(r)
	case number:
		return isDigit(r)
	case sign:
		return beginsSign(c.text[c.from:at] + string(r))
	}
	return false
}

// isBroken tells whether no UTF-8 stands there: a range gives the same character for that as for a U+FFFD which is written out.
func (c *cutter) isBroken(at int, r rune) bool {
	return r == utf8.RuneError && !strings.HasPrefix(c.text[at:], string(utf8.RuneError))
}

func (c *cutter) begin(at int, r rune) {
	c.from = at
	switch {
	case isBlank(r):
		c.in = nothing
	case r == '#':
		c.in = remark
	case isLetter(r):
		c.in = name
	case isDigit(r):
		c.in = number
	case beginsSign(string(r)):
		c.in = sign
	default:
		c.fail(api.ErrText, at)
	}
}

// finish puts in the word that ends there, if the cutter is in the midst of one.
func (c *cutter) finish(end int) {
	text := c.text[c.from:end]
	switch c.in {
	case name:
		c.finishName(text)
	case number:
		c.finishNumber(text)
	case sign:
		c.finishSign(text)
	}
}

func (c *cutter) finishName(text string) {
	if utf8.RuneCountInString(text) > api.MaxRunes {
		c.fail(api.ErrText, c.from)
		return
	}
	if kind, ok := spelled(text); ok {
		c.words = append(c.words, Word{Kind: kind, At: c.from})
		return
	}
	// A piece of the text would keep the whole of it, which is the caller's.
	c.words = append(c.words, Word{Kind: Name, At: c.from, Text: strings.Clone(text)})
}

func (c *cutter) finishNumber(text string) {
	value := int64(0)
	for _, r := range text {
		// Any greater number is as wrong as the first that is too great, and would not fit at last.
		value = min(value*10+int64(r-'0'), api.MaxNumber+1)
	}
	if value > api.MaxNumber {
		c.fail(api.ErrNumber, c.from)
		return
	}
	c.words = append(c.words, Word{Kind: Number, At: c.from, Value: value})
}

func (c *cutter) finishSign(text string) {
	kind, ok := spelled(text)
	if !ok {
		c.fail(api.ErrText, c.from)
		return
	}
	c.words = append(c.words, Word{Kind: kind, At: c.from})
}

// spelled gives the word that has this one spelling, if there is one.
func spelled(text string) (Kind, bool) {
	for kind := Arr; kind <= lastSign; kind++ {
		if spellings[kind] == text {
			return kind, true
		}
	}
	return End, false
}

func beginsSign(text string) bool {
	for kind := firstSign; kind <= lastSign; kind++ {
		if strings.HasPrefix(spellings[kind], text) {
			return true
		}
	}
	return false
}

func isBlank(r rune) bool {
	return r == '\t' || r == '\n' || r == '\r' || r == ' '
}

func isDigit(r rune) bool {
	return '0' <= r && r <= '9'
}

func isLetter(r rune) bool {
	if 'a' <= r && r <= 'z' || 'A' <= r && r <= 'Z' || r == '_' {
		return true
	}
	return 0xC0 <= r && r <= 0x24F && r != 0xD7 && r != 0xF7
}
