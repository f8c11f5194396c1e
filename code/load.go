package code

import "surefoot/api"

// FromBytes reads a code, and tells whether the bytes are one.
func FromBytes(bytes string) (*Code, bool) {
	if len(bytes) > api.MaxCode {
		return nil, false
	}
	cells, ok := unpack(bytes)
	if !ok {
		return nil, false
	}
	return FromCells(cells)
}

// unpack reads cells. There is but one way to write each, so the same bytes are written again.
func unpack(bytes string) (cells []int, ok bool) {
	cell, part := 0, 0
	for i := range len(bytes) {
		b := int(bytes[i])
		cell |= b & lowBits << (part * bitsOfByte)
		part++
		if b >= moreBit {
			if part == mostBytes {
				return nil, false
			}
			continue
		}
		if cell > api.MaxNumber || b == 0 && part > 1 {
			return nil, false
		}
		cells = append(cells, cell)
		cell, part = 0, 0
	}
	return cells, part == 0
}

// checker goes through the cells of a code, and writes down what they say of its arrays and functions.
type checker struct {
	*Code
	at      int // the next cell
	isWrong bool

	// Of the body that it goes through:

	depth  int       // how many numbers lie on the stack
	isPaid bool      // fuel was taken for the statement that it is in
	lands  []landing // by the cell
	jumps  []jump
}

// landing tells from where one may jump to a cell.
type landing int

const (
	nowhere landing = iota
	ahead           // of the cell
	anywhere
)

type jump struct{ from, to int }

// FromCells makes a code of cells, which it keeps, and tells whether they are one.
// What it takes cannot go wrong in the machine: the stack has what an instruction takes, the operands are there, each way round takes fuel, and so does each out.
func FromCells(cells []int) (*Code, bool) {
	k := checker{Code: &Code{cells: cells, Main: api.None}, lands: make([]landing, len(cells))}
	k.arrays()
	k.heads()
	for i := range k.Funcs {
		k.body(&k.Funcs[i])
	}
	k.want(k.Main != api.None && k.at == len(cells))
	if k.isWrong {
		return nil, false
	}
	return k.Code, true
}

func (k *checker) want(isSo bool) {
	if !isSo {
		k.isWrong = true
	}
}

// isNext tells whether this instruction is the next one.
func (k *checker) isNext(op Op) bool {
	return !k.isWrong && k.at < len(k.cells) && Op(k.cells[k.at]) == op
}

// skips goes behind the cell of this instruction, if it is the next one, and tells whether it is.
func (k *checker) skips(op Op) bool {
	if !k.isNext(op) {
		return false
	}
	k.at++
	return true
}

// operand gives the next cell, which must be from the least to the greatest. Where it is not, the least is given.
func (k *checker) operand(least, most int) int {
	if k.isWrong || k.at == len(k.cells) || k.cells[k.at] < least || k.cells[k.at] > most {
		k.isWrong = true
		return least
	}
	k.at++
	return k.cells[k.at-1]
}

func (k *checker) arrays() {
	for k.skips(Array) {
		k.Arrays = append(k.Arrays, k.operand(1, api.MaxLength))
	}
	k.want(len(k.Arrays) <= api.MaxArrays)
}

func (k *checker) heads() {
	for k.isNext(Func) || k.isNext(Main) {
		if k.isNext(Main) {
			k.want(k.Main == api.None)
			k.Main = len(k.Funcs)
		}
		k.at++
		k.Funcs = append(k.Funcs, k.head())
	}
	k.want(len(k.Funcs) <= api.MaxFuncs)
}

func (k *checker) head() Function {
	f := Function{Params: k.operand(0, api.MaxParams)}
	for k.skips(Where) {
		comparison := k.operand(0, int(Unequal))
		left := k.side(f.Params)
		f.Wheres = append(f.Wheres, Condition{Comparison: Comparison(comparison), Left: left, Right: k.side(f.Params)})
	}
	k.want(len(f.Wheres) <= api.MaxWheres)
	return f
}

func (k *checker) side(params int) Side {
	is := k.operand(IsNumber, IsParam)
	if is == IsParam {
		return Side{Is: is, Number: k.operand(0, params-1)}
	}
	return Side{Is: is, Number: k.operand(0, api.MaxNumber)}
}
