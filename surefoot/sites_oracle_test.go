package surefoot

import (
	"maps"
	"math/big"
	"strconv"

	"surefoot/api"
)

// The third oracle tells what is sure by ranges straight from the words, again and again over the same ones where they are gone through again. Its numbers are as long as they need to be, and it makes what is known anew at each step.

type oracleRange struct{ least, most *big.Int }

// oracleKnown has the range of each variable by its name. Of a dead place it is nil.
type oracleKnown map[string]oracleRange

// oracleLooker goes through one function, at piece i.
type oracleLooker struct {
	*oracleLocal
	sure map[int]bool // by the site
	most int          // how many rounds a while had at most
}

var (
	oracleLeast = new(big.Int).Neg(new(big.Int).Lsh(big.NewInt(1), 63))
	oracleMost  = new(big.Int).Not(oracleLeast)
)

func oracleAll() oracleRange { return oracleRange{oracleLeast, oracleMost} }

func oracleOne(n *big.Int) oracleRange { return oracleRange{n, n} }

func (r oracleRange) has(n int64) bool {
	return r.least.Cmp(big.NewInt(n)) <= 0 && r.most.Cmp(big.NewInt(n)) >= 0
}

func (r oracleRange) isOne() bool { return r.least.Cmp(r.most) == 0 }

func smaller(a, b *big.Int) *big.Int {
	if a.Cmp(b) < 0 {
		return a
	}
	return b
}

func greater(a, b *big.Int) *big.Int {
	if a.Cmp(b) > 0 {
		return a
	}
	return b
}

// oracleSites gives the sites and the most rounds that any while had.
func oracleSites(text string) ([]api.Site, int) {
	pieces, _ := oraclePieces(text)
	w := &oracleWalker{pieces: pieces, funcs: map[string]int{}, lengths: map[string]int{}, arrays: map[string]map[int64]int64{}}
	w.gather()
	w.number()
	sure := map[int]bool{}
	rounds := 0
	for name := range w.funcs {
		l := oracleLooker{oracleLocal: w.local(name, nil), sure: sure}
		l.function()
		rounds = max(rounds, l.most)
	}
	list := make([]api.Site, len(w.sites))
	for i, site := range w.sites {
		list[site] = api.Site{Kind: w.kindOf(i), At: w.pieces[i].at, Sure: sure[site]}
	}
	return list, rounds
}

func (w *oracleWalker) kindOf(i int) int {
	switch {
	case w.is(i, "/", "%"):
		return 3
	case w.is(i+1, "("):
		return 4
	case w.is(i-1, ";", "{", "}"):
		return 2
	}
	return 1
}

func (l *oracleLooker) function() {
	known := oracleKnown{}
	for i := l.i; i < len(l.pieces) && !l.is(i, "fn", "arr"); i++ {
		if l.is(i, "let") {
			known[l.pieces[i+1].text] = oracleOne(big.NewInt(0))
		}
	}
	for _, name := range l.params {
		known[name] = oracleAll()
	}
	for l.skip("where") || l.skip(",") {
		known, _ = l.comp(known)
	}
	l.block(known)
}

func (l *oracleLooker) block(known oracleKnown) oracleKnown {
	l.skip("{")
	for !l.skip("}") {
		known = l.stmt(known)
	}
	return known
}

func (k oracleKnown) with(name string, r oracleRange) oracleKnown {
	if k == nil {
		return nil
	}
	k = maps.Clone(k)
	k[name] = r
	return k
}

func (l *oracleLooker) stmt(known oracleKnown) oracleKnown {
	at := l.i
	word := l.next()
	switch {
	case word == "let":
		return known.with(l.next(), l.end(known))
	case word == "if":
		yes, no := l.cond(known)
		yes = l.block(yes)
		if l.skip("else") {
			no = l.block(no)
		}
		return meet(yes, no)
	case word == "while":
		return l.while(known)
	case word == "return":
		l.end(known)
		return nil
	case word == "out":
		l.end(known)
		return known
	case l.skip("["):
		index := l.expr(known)
		l.skip("]")
		l.end(known)
		l.look(known, at, l.within(word, index))
		return known
	}
	return known.with(word, l.end(known))
}

// end reads what ends a statement, with the sign ahead of it if there is one.
func (l *oracleLooker) end(known oracleKnown) oracleRange {
	l.skip("=")
	r := l.expr(known)
	l.skip(";")
	return r
}

func meet(a, b oracleKnown) oracleKnown {
	if a == nil {
		return b
	}
	if b == nil {
		return a
	}
	both := oracleKnown{}
	for name := range a {
		both[name] = oracleRange{smaller(a[name].least, b[name].least), greater(a[name].most, b[name].most)}
	}
	return both
}

func (l *oracleLooker) while(known oracleKnown) oracleKnown {
	from := l.i
	for round := 1; ; round++ {
		l.most = max(l.most, round)
		l.i = from
		yes, no := l.cond(known)
		begin := l.i
		end := l.block(yes)
		if end == nil || round == 4 {
			return no
		}
		next := maps.Clone(known)
		changed := false
		set := l.setBetween(begin, l.i)
		for _, name := range set {
			r := known[name]
			if end[name].least.Cmp(r.least) < 0 {
				r.least, changed = oracleLeast, true
			}
			if end[name].most.Cmp(r.most) > 0 {
				r.most, changed = oracleMost, true
			}
			next[name] = r
		}
		if !changed {
			return no
		}
		if round == 3 {
			for _, name := range set {
				next[name] = oracleAll()
			}
		}
		known = next
	}
}

// setBetween gives the names ahead of a lone = in these words, but for those of arrays.
func (l *oracleLooker) setBetween(from, to int) []string {
	var set []string
	for i := from + 1; i < to; i++ {
		if l.is(i, "=") && !l.is(i-1, "]") {
			set = append(set, l.pieces[i-1].text)
		}
	}
	return set
}

// cond gives what is known where it holds and where it does not.
func (l *oracleLooker) cond(known oracleKnown) (yes, no oracleKnown) {
	yes, no = l.conj(known)
	for l.skip("||") {
		right, neither := l.conj(no)
		yes, no = meet(yes, right), neither
	}
	return yes, no
}

func (l *oracleLooker) conj(known oracleKnown) (yes, no oracleKnown) {
	yes, no = l.comp(known)
	for l.skip("&&") {
		both, right := l.comp(yes)
		yes, no = both, meet(no, right)
	}
	return yes, no
}

func (l *oracleLooker) comp(known oracleKnown) (yes, no oracleKnown) {
	from := l.i
	ra := l.expr(known)
	a := l.alone(from)
	op := l.next()
	from = l.i
	rb := l.expr(known)
	b := l.alone(from)
	opposite := map[string]string{"<": ">=", ">=": "<", ">": "<=", "<=": ">", "==": "!=", "!=": "=="}[op]
	return known.holds(a, ra, op, b, rb), known.holds(a, ra, opposite, b, rb)
}

// alone gives the variable that is all that stands between there and here, but for brackets.
func (l *oracleLooker) alone(from int) string {
	to := l.i - 1
	for from < to && l.is(from, "(") && l.is(to, ")") {
		from++
		to--
	}
	if from == to && classOf(l.pieces[from].text) == "NAME" {
		return l.pieces[from].text
	}
	return ""
}

// holds gives what is known where a stands so to b: each has the name of a variable, or none.
func (k oracleKnown) holds(a string, ra oracleRange, op string, b string, rb oracleRange) oracleKnown {
	if k == nil {
		return nil
	}
	one := big.NewInt(1)
	switch op {
	case ">":
		return k.holds(b, rb, "<", a, ra)
	case ">=":
		return k.holds(b, rb, "<=", a, ra)
	case "<":
		below, above := new(big.Int).Sub(rb.most, one), new(big.Int).Add(ra.least, one)
		if below.Cmp(oracleLeast) < 0 || above.Cmp(oracleMost) > 0 {
			return nil
		}
		return k.cut(a, oracleLeast, below).cut(b, above, oracleMost)
	case "<=":
		return k.cut(a, oracleLeast, rb.most).cut(b, ra.least, oracleMost)
	case "==":
		return k.cut(a, rb.least, rb.most).cut(b, ra.least, ra.most)
	}
	// Each end by itself: which numbers are cut away is found out ahead.
	bite := func(k oracleKnown, name string, r, other oracleRange) oracleKnown {
		if !other.isOne() {
			return k
		}
		least, most := r.least, r.most
		if least.Cmp(other.least) == 0 {
			least = new(big.Int).Add(least, one)
		}
		if most.Cmp(other.least) == 0 {
			most = new(big.Int).Sub(most, one)
		}
		return k.cut(name, least, most)
	}
	return bite(bite(k, a, ra, rb), b, rb, ra)
}

func (k oracleKnown) cut(name string, least, most *big.Int) oracleKnown {
	if name == "" || k == nil {
		return k
	}
	r := oracleRange{greater(k[name].least, least), smaller(k[name].most, most)}
	if r.least.Cmp(r.most) > 0 {
		return nil
	}
	return k.with(name, r)
}

// look writes down of the site at piece i whether it is sure.
func (l *oracleLooker) look(known oracleKnown, i int, isSafe bool) {
	l.sure[l.sites[i]] = known == nil || isSafe
}

func (l *oracleLooker) within(array string, index oracleRange) bool {
	return index.least.Sign() >= 0 && index.most.Cmp(big.NewInt(int64(l.lengths[array]))) < 0
}

// fromEnds goes from the least to the greatest of these.
func fromEnds(ends ...*big.Int) oracleRange {
	r := oracleOne(ends[0])
	for _, n := range ends {
		if n.Cmp(oracleLeast) < 0 || n.Cmp(oracleMost) > 0 {
			return oracleAll()
		}
		r = oracleRange{smaller(r.least, n), greater(r.most, n)}
	}
	return r
}

func withEnds(a, b oracleRange, work func(z, x, y *big.Int) *big.Int) oracleRange {
	z := func() *big.Int { return new(big.Int) }
	return fromEnds(work(z(), a.least, b.least), work(z(), a.least, b.most), work(z(), a.most, b.least), work(z(), a.most, b.most))
}

func (l *oracleLooker) expr(known oracleKnown) oracleRange {
	r := l.term(known)
	for l.is(l.i, "+", "-") {
		if l.next() == "+" {
			r = withEnds(r, l.term(known), (*big.Int).Add)
		} else {
			r = withEnds(r, l.term(known), (*big.Int).Sub)
		}
	}
	return r
}

func (l *oracleLooker) term(known oracleKnown) oracleRange {
	r := l.factor(known)
	for l.is(l.i, "*", "/", "%") {
		at := l.i
		op := l.next()
		right := l.factor(known)
		if op != "*" {
			l.look(known, at, !right.has(0))
		}
		switch {
		case op == "*":
			r = withEnds(r, right, (*big.Int).Mul)
		case op == "/" && !right.has(0) && r.least.Cmp(oracleLeast) != 0:
			r = withEnds(r, right, (*big.Int).Quo)
		case op == "%" && right.isOne() && right.least.Sign() != 0 && right.least.Cmp(oracleLeast) != 0:
			r = restOf(r, right.least)
		default:
			r = oracleAll()
		}
	}
	return r
}

func restOf(r oracleRange, by *big.Int) oracleRange {
	m := new(big.Int).Abs(by)
	m.Sub(m, big.NewInt(1))
	rest := oracleOne(big.NewInt(0))
	if r.least.Sign() < 0 {
		rest.least = new(big.Int).Neg(m)
	}
	if r.most.Sign() > 0 {
		rest.most = m
	}
	return rest
}

func (l *oracleLooker) factor(known oracleKnown) oracleRange {
	at := l.i
	word := l.next()
	switch {
	case classOf(word) == "NUMBER":
		n, _ := strconv.ParseInt(word, 10, 64)
		return oracleOne(big.NewInt(n))
	case word == "-":
		r := l.factor(known)
		return fromEnds(new(big.Int).Neg(r.least), new(big.Int).Neg(r.most))
	case word == "(":
		r := l.expr(known)
		l.skip(")")
		return r
	case l.skip("["):
		index := l.expr(known)
		l.skip("]")
		l.look(known, at, l.within(word, index))
		return oracleAll()
	case l.skip("("):
		l.call(known, at, word)
		return oracleAll()
	}
	if known == nil {
		return oracleAll()
	}
	return known[word]
}

func (l *oracleLooker) call(known oracleKnown, at int, name string) {
	var args []oracleRange
	for !l.skip(")") {
		args = append(args, l.expr(known))
		l.skip(",")
	}
	if !l.picky(name) {
		return
	}
	callee := oracleLooker{oracleLocal: l.local(name, make([]int64, len(args)))}
	given := oracleKnown{}
	for i, param := range callee.params {
		given[param] = args[i]
	}
	all := true
	for callee.skip("where") || callee.skip(",") {
		a := callee.expr(given)
		op := callee.next()
		all = sureOf(a, op, callee.expr(given)) && all
	}
	l.look(known, at, all)
}

func sureOf(a oracleRange, op string, b oracleRange) bool {
	switch op {
	case "<":
		return a.most.Cmp(b.least) < 0
	case "<=":
		return a.most.Cmp(b.least) <= 0
	case ">":
		return sureOf(b, "<", a)
	case ">=":
		return sureOf(b, "<=", a)
	case "==":
		return a.isOne() && b.isOne() && a.least.Cmp(b.least) == 0
	}
	return sureOf(a, "<", b) || sureOf(b, "<", a)
}
