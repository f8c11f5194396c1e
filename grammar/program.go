package grammar

import (
	"surefoot/api"
	"surefoot/tree"
	"surefoot/words"
)

// Parse makes a tree from words that end with an End, or tells the first fault. What the names mean is left open.
func Parse(list []words.Word) (*tree.Program, api.Fault) {
	r := reader{words: list}
	program := r.program()
	if r.fault.Code != api.OK {
		return nil, r.fault
	}
	return program, api.Fault{}
}

func (r *reader) program() *tree.Program {
	program := &tree.Program{}
	for !r.stands(words.End) {
		switch r.take(words.Arr, words.Fn).Kind {
		case words.Arr:
			program.Items = append(program.Items, r.array())
		case words.Fn:
			program.Items = append(program.Items, r.function())
		}
	}
	return program
}

func nameOf(word words.Word) tree.Name {
	return tree.Name{Text: word.Text, At: word.At}
}

func (r *reader) name() tree.Name {
	return nameOf(r.take(words.Name))
}

func (r *reader) array() *tree.Array {
	name := r.name()
	length := r.take(words.Number)
	r.take(words.Semicolon)
	return &tree.Array{Name: name, Length: int(length.Value), LengthAt: length.At}
}

func (r *reader) function() *tree.Func {
	f := &tree.Func{Name: r.name()}
	r.open(words.LeftRound)
	if r.stands(words.Name) {
		f.Params = list(r, r.name)
	}
	r.shut(words.RightRound)
	if r.skips(words.Where) {
		f.Wheres = list(r, r.rel)
	}
	f.Body = r.block()
	return f
}

func (r *reader) rel() *tree.Compare {
	return r.compareOf(r.atom)
}

func (r *reader) atom() tree.Expr {
	word := r.take(words.Minus, words.Number, words.Name)
	switch word.Kind {
	case words.Minus:
		return &tree.Number{Value: -r.take(words.Number).Value}
	case words.Number:
		return &tree.Number{Value: word.Value}
	}
	return &tree.Variable{Name: nameOf(word)}
}

func (r *reader) block() []tree.Stmt {
	r.open(words.LeftBrace)
	var body []tree.Stmt
	for !r.stands(words.RightBrace, words.End) {
		body = append(body, r.stmt())
	}
	r.shut(words.RightBrace)
	return body
}

func (r *reader) stmt() tree.Stmt {
	word := r.take(words.Let, words.Name, words.If, words.While, words.Return, words.Out)
	switch word.Kind {
	case words.Let:
		return r.set(r.name(), true)
	case words.If:
		return r.ifStmt()
	case words.While:
		return &tree.While{Cond: r.cond(), Body: r.block()}
	case words.Return:
		return &tree.Return{Value: r.value()}
	case words.Out:
		return &tree.Out{Value: r.value()}
	}
	if r.stands(words.LeftSquare) {
		return r.store(nameOf(word))
	}
	return r.set(nameOf(word), false)
}

func (r *reader) set(name tree.Name, isLet bool) *tree.Set {
	r.take(words.Assign)
	return &tree.Set{Var: name, Value: r.value(), IsLet: isLet}
}

func (r *reader) store(name tree.Name) *tree.Store {
	index := r.index()
	r.take(words.Assign)
	return &tree.Store{Array: name, Index: index, Value: r.value()}
}

func (r *reader) ifStmt() *tree.If {
	s := &tree.If{Cond: r.cond(), Then: r.block()}
	if r.skips(words.Else) {
		s.Else = r.block()
	}
	return s
}

// value reads what ends a statement.
func (r *reader) value() tree.Expr {
	value := r.expr()
	r.take(words.Semicolon)
	return value
}
