// Package grammar makes a tree from the words of a program.
package grammar

import (
	"slices"

	"surefoot/api"
	"surefoot/words"
)

// reader goes through words. Behind its first fault it stands at the end, where no word is left that one could ask for: so whatever is under way comes to an end by itself.
type reader struct {
	words []words.Word // the last one is an End
	next  int
	nest  int // blocks, brackets and signs of factors that are open
	fault api.Fault
}

func (r *reader) fail(code api.Errno, at int) {
	if r.fault.Code == api.OK {
		r.fault = api.Fault{Code: code, At: at}
	}
	r.next = len(r.words) - 1
}

// stands tells whether the next word is one of these.
func (r *reader) stands(kinds ...words.Kind) bool {
	return slices.Contains(kinds, r.words[r.next].Kind)
}

// take gives the next word, which must be one of these, and goes behind it. If it is none, an End is given.
func (r *reader) take(kinds ...words.Kind) words.Word {
	word := r.words[r.next]
	if !r.stands(kinds...) {
		r.fail(api.ErrSyntax, word.At)
		return words.Word{}
	}
	r.next++
	return word
}

// skips goes behind the next word, if it is one of these, and tells whether it is.
func (r *reader) skips(kinds ...words.Kind) bool {
	if !r.stands(kinds...) {
		return false
	}
	r.next++
	return true
}

// open takes one of these words, and looks how deep it stands.
func (r *reader) open(kinds ...words.Kind) {
	r.deepen(r.take(kinds...))
}

// deepen counts a word that was taken among those that are open.
func (r *reader) deepen(word words.Word) {
	r.nest++
	if r.nest > api.MaxNest {
		r.fail(api.ErrDeep, word.At)
	}
}

// shut takes the other word of one that is open.
func (r *reader) shut(kind words.Kind) {
	r.take(kind)
	r.nest--
}

// list reads one, and one more behind each comma.
func list[T any](r *reader, one func() T) []T {
	found := []T{one()}
	for r.skips(words.Comma) {
		found = append(found, one())
	}
	return found
}
