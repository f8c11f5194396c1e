package surefoot

import (
	"math/big"
	"strconv"

	"surefoot/api"
)

// The second oracle runs a program straight from its words, without a tree: what is not come to is read over. Its numbers are as long as they need to be, and are cut to 64 bits.

// oracleEnd is what ends a run, wherever it is.
type oracleEnd struct{ end, site int }

type oracleWalker struct {
	pieces  []piece
	funcs   map[string]int // where its name stands
	sites   map[int]int    // of the pieces
	lengths map[string]int
	arrays  map[string]map[int64]int64
	fuel    int
	calls   int
	outs    []int64
}

// oracleLocal is one function that is running, at piece i.
type oracleLocal struct {
	*oracleWalker
	i      int
	vars   map[string]int64
	params []string
}

func oracleWalk(text string, args []int64, fuel int) (result api.Result) {
	pieces, _ := oraclePieces(text)
	w := &oracleWalker{pieces: pieces, funcs: map[string]int{}, lengths: map[string]int{}, arrays: map[string]map[int64]int64{}, fuel: min(fuel, 20000)}
	w.gather()
	w.number()
	defer func() {
		if end, ok := recover().(oracleEnd); ok {
			result = api.Result{End: end.end, Site: end.site, Outs: w.outs}
		}
	}()
	main := w.local("main", args)
	if len(main.params) != len(args) || !main.conditions() {
		return api.Result{End: 5, Site: -1}
	}
	value := main.run()
	return api.Result{End: 1, Value: value, Site: -1, Outs: w.outs}
}

func (w *oracleWalker) is(i int, texts ...string) bool {
	for _, text := range texts {
		if i >= 0 && w.pieces[i].text == text {
			return true
		}
	}
	return false
}

func (w *oracleWalker) gather() {
	for i := range w.pieces {
		if w.is(i, "fn") {
			w.funcs[w.pieces[i+1].text] = i + 1
		}
		if w.is(i, "arr") {
			name := w.pieces[i+1].text
			w.lengths[name], _ = strconv.Atoi(w.pieces[i+2].text)
			w.arrays[name] = map[int64]int64{}
		}
	}
}

// picky tells whether a function has conditions.
func (w *oracleWalker) picky(name string) bool {
	i := w.funcs[name]
	for !w.is(i, ")") {
		i++
	}
	return w.is(i+1, "where")
}

func (w *oracleWalker) number() {
	w.sites = map[int]int{}
	for i, p := range w.pieces {
		isName := classOf(p.text) == "NAME"
		switch {
		case w.is(i, "/", "%"), isName && w.is(i+1, "["), isName && w.is(i+1, "(") && !w.is(i-1, "fn") && w.picky(p.text):
			w.sites[i] = len(w.sites)
		}
	}
}

// local stands behind the parameters of the function.
func (w *oracleWalker) local(name string, args []int64) *oracleLocal {
	l := &oracleLocal{oracleWalker: w, i: w.funcs[name] + 2, vars: map[string]int64{}}
	for ; !w.is(l.i, ")"); l.i++ {
		if !w.is(l.i, ",") {
			name := w.pieces[l.i].text
			if len(l.params) < len(args) {
				l.vars[name] = args[len(l.params)]
			}
			l.params = append(l.params, name)
		}
	}
	l.i++
	return l
}

// conditions reads over all of them, and stands ahead of the block then.
func (l *oracleLocal) conditions() bool {
	all := true
	for l.skip("where") || l.skip(",") {
		all = l.comp(true) && all
	}
	return all
}

func (l *oracleLocal) run() int64 {
	if l.calls == 60 {
		panic(oracleEnd{4, -1})
	}
	l.calls++
	l.burn()
	value, _ := l.block(true)
	l.calls--
	return value
}

func (w *oracleWalker) burn() {
	if w.fuel <= 0 {
		panic(oracleEnd{3, -1})
	}
	w.fuel--
}

func (l *oracleLocal) skip(text string) bool {
	if !l.is(l.i, text) {
		return false
	}
	l.i++
	return true
}

func (l *oracleLocal) next() string {
	l.i++
	return l.pieces[l.i-1].text
}

// block tells whether there was a return in it, and of what.
func (l *oracleLocal) block(live bool) (value int64, returned bool) {
	l.skip("{")
	for !l.skip("}") {
		v, r := l.stmt(live && !returned)
		if r {
			value, returned = v, true
		}
	}
	return value, returned
}

func (l *oracleLocal) stmt(live bool) (value int64, returned bool) {
	if live {
		l.burn()
	}
	at := l.i
	word := l.next()
	switch {
	case word == "let":
		return l.setStmt(live, l.next())
	case word == "if":
		return l.ifStmt(live)
	case word == "while":
		return l.whileStmt(live)
	case word == "return":
		value = l.end(live)
		return value, live
	case word == "out":
		if value = l.end(live); live {
			l.outs = append(l.outs, value)
		}
		return 0, false
	case l.skip("["):
		index := l.expr(live)
		l.skip("]")
		l.skip("=")
		value = l.end(live)
		if live {
			*l.element(at, index) = value
			l.arrays[word][index] = value
		}
		return 0, false
	}
	return l.setStmt(live, word)
}

func (l *oracleLocal) setStmt(live bool, name string) (int64, bool) {
	l.skip("=")
	if value := l.end(live); live {
		l.vars[name] = value
	}
	return 0, false
}

func (l *oracleLocal) end(live bool) int64 {
	value := l.expr(live)
	l.skip(";")
	return value
}

// element traps or gives a copy.
func (l *oracleLocal) element(at int, index int64) *int64 {
	name := l.pieces[at].text
	if index < 0 || index >= int64(l.lengths[name]) {
		panic(oracleEnd{2, l.sites[at]})
	}
	value := l.arrays[name][index]
	return &value
}

func (l *oracleLocal) ifStmt(live bool) (int64, bool) {
	yes := l.cond(live)
	value, returned := l.block(live && yes)
	if l.skip("else") {
		v, r := l.block(live && !yes)
		if r {
			value, returned = v, r
		}
	}
	return value, returned
}

func (l *oracleLocal) whileStmt(live bool) (int64, bool) {
	from := l.i
	for {
		l.i = from
		if live {
			l.burn()
		}
		goes := l.cond(live)
		value, returned := l.block(live && goes)
		if !live || !goes || returned {
			return value, returned
		}
	}
}

func (l *oracleLocal) cond(live bool) bool {
	yes := l.conj(live)
	for l.skip("||") {
		yes = l.conj(live && !yes) || yes
	}
	return yes
}

func (l *oracleLocal) conj(live bool) bool {
	yes := l.comp(live)
	for l.skip("&&") {
		yes = l.comp(live && yes) && yes
	}
	return yes
}

func (l *oracleLocal) comp(live bool) bool {
	a := l.expr(live)
	op := l.next()
	b := l.expr(live)
	sign := big.NewInt(a).Cmp(big.NewInt(b))
	return map[string]bool{"<": sign < 0, "<=": sign <= 0, ">": sign > 0, ">=": sign >= 0, "==": sign == 0, "!=": sign != 0}[op]
}

// oracleCut cuts a number to 64 bits.
func oracleCut(n *big.Int) int64 {
	return int64(new(big.Int).Mod(n, new(big.Int).Lsh(big.NewInt(1), 64)).Uint64())
}

func (l *oracleLocal) expr(live bool) int64 {
	value := l.term(live)
	for l.is(l.i, "+", "-") {
		op, a := l.next(), big.NewInt(value)
		b := big.NewInt(l.term(live))
		if op == "-" {
			b.Neg(b)
		}
		value = oracleCut(a.Add(a, b))
	}
	return value
}

func (l *oracleLocal) term(live bool) int64 {
	value := l.factor(live)
	for l.is(l.i, "*", "/", "%") {
		at, a := l.i, big.NewInt(value)
		op := l.next()
		b := big.NewInt(l.factor(live))
		switch {
		case !live:
		case op == "*":
			value = oracleCut(a.Mul(a, b))
		case b.Sign() == 0:
			panic(oracleEnd{2, l.sites[at]})
		case op == "/":
			value = oracleCut(a.Quo(a, b))
		case op == "%":
			value = oracleCut(a.Rem(a, b))
		}
	}
	return value
}

func (l *oracleLocal) factor(live bool) int64 {
	at := l.i
	word := l.next()
	switch {
	case classOf(word) == "NUMBER":
		n, _ := strconv.ParseInt(word, 10, 64)
		return n
	case word == "-":
		n := big.NewInt(l.factor(live))
		return oracleCut(n.Neg(n))
	case word == "(":
		value := l.expr(live)
		l.skip(")")
		return value
	case l.skip("["):
		index := l.expr(live)
		l.skip("]")
		if !live {
			return 0
		}
		return *l.element(at, index)
	case l.skip("("):
		var args []int64
		for !l.skip(")") {
			args = append(args, l.expr(live))
			l.skip(",")
		}
		if !live {
			return 0
		}
		callee := l.local(word, args)
		if !callee.conditions() {
			panic(oracleEnd{2, l.sites[at]})
		}
		return callee.run()
	}
	return l.vars[word]
}
