package grammar

import (
	"surefoot/tree"
	"surefoot/words"
)

func (r *reader) cond() tree.Cond {
	return r.logic(words.Or, r.conj)
}

func (r *reader) conj() tree.Cond {
	return r.logic(words.And, r.comp)
}

func (r *reader) comp() tree.Cond {
	return r.compareOf(r.expr)
}

// logic reads parts with this operator between them.
func (r *reader) logic(op words.Kind, part func() tree.Cond) tree.Cond {
	cond := part()
	for r.skips(op) {
		cond = &tree.Logic{Op: op, Left: cond, Right: part()}
	}
	return cond
}

func (r *reader) compareOf(side func() tree.Expr) *tree.Compare {
	at := r.words[r.next].At
	left := side()
	op := r.take(words.Less, words.AtMost, words.Greater, words.AtLeast, words.Equal, words.Unequal)
	return &tree.Compare{Op: op.Kind, At: at, Left: left, Right: side()}
}

func (r *reader) expr() tree.Expr {
	return r.chain(r.term, words.Plus, words.Minus)
}

func (r *reader) term() tree.Expr {
	return r.chain(r.factor, words.Times, words.Divide, words.Rest)
}

// chain reads parts with any of these operators between them.
func (r *reader) chain(part func() tree.Expr, ops ...words.Kind) tree.Expr {
	value := part()
	for r.stands(ops...) {
		op := r.take(ops...)
		value = &tree.Binary{Op: op.Kind, At: op.At, Left: value, Right: part()}
	}
	return value
}

func (r *reader) factor() tree.Expr {
	word := r.take(words.Number, words.Name, words.LeftRound, words.Minus)
	switch word.Kind {
	case words.Number:
		return &tree.Number{Value: word.Value}
	case words.LeftRound:
		r.deepen(word)
		inner := r.expr()
		r.shut(words.RightRound)
		return &tree.Bracket{Inner: inner}
	case words.Minus:
		r.deepen(word)
		inner := r.factor()
		r.nest--
		return &tree.Negate{Inner: inner}
	}
	return r.named(nameOf(word))
}

// named reads what a name in a factor stands for: the word behind it says.
func (r *reader) named(name tree.Name) tree.Expr {
	if r.stands(words.LeftSquare) {
		return &tree.Element{Array: name, Index: r.index()}
	}
	if r.stands(words.LeftRound) {
		return &tree.Call{Func: name, Args: r.args()}
	}
	return &tree.Variable{Name: name}
}

func (r *reader) index() tree.Expr {
	r.open(words.LeftSquare)
	index := r.expr()
	r.shut(words.RightSquare)
	return index
}

func (r *reader) args() []tree.Expr {
	r.open(words.LeftRound)
	var args []tree.Expr
	if !r.stands(words.RightRound) {
		args = list(r, r.expr)
	}
	r.shut(words.RightRound)
	return args
}
