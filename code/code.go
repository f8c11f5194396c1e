// Package code has the instructions of the machine, and the codes that are made of them.
//
// A code is a list of cells: an instruction is the cell of its kind and one for each operand. Ahead stand the arrays, then the heads of the functions, then their bodies, in the same order. While a body runs, its numbers lie on a stack, of which each statement leaves nothing.
package code

import "strings"

// Op is a kind of instruction.
type Op int

const (
	// What stands ahead of the bodies.

	Array Op = iota // length
	Func            // parameters
	Main            // parameters: the function with which a run begins
	Where           // comparison, and of each side what it is and its number: what the function wants whose head is ahead

	// What works numbers on the stack. None of these looks.

	Number   // number
	Variable // variable
	Load     // array; takes the index
	Call     // function; takes the arguments
	Negate
	Plus
	Minus
	Times
	Divide
	Rest

	// What looks whether the instruction that is to follow goes astray, and leaves the stack as it is.

	LookLoad   // array, site; the index lies on top
	LookStore  // array, site; the index lies below the value
	LookDivide // site; the right side lies on top
	LookCall   // function, site; the arguments lie on top

	// What statements are made of.

	Begin  // takes one of the fuel: a statement begins
	Round  // takes one of the fuel: a while is tested
	Set    // variable; takes the value
	Store  // array; takes the index and the value
	Out    // takes the value
	Return // takes the value
	Jump   // cell
	JumpIf // cell, comparison; takes both sides
	End    // gives 0: the last one of each body
)

// Code is a code in which all is in order.
type Code struct {
	cells  []int
	Arrays []int // their lengths
	Funcs  []Function
	Main   int // with which function a run begins
}

// Function is what a code says of a function.
type Function struct {
	Params int
	Wheres []Condition
	Start  int // the first cell of its body
}

// Cell gives one of the cells.
func (c *Code) Cell(at int) int { return c.cells[at] }

const (
	bitsOfByte = 7 // that are a cell's
	lowBits    = 1<<bitsOfByte - 1
	moreBit    = lowBits + 1 // there are more bytes of the cell
	mostBytes  = 5           // of a cell: it is at most api.MaxNumber
)

// Bytes writes a code: of each cell 7 bits a byte, the lowest ones first.
func (c *Code) Bytes() string {
	var bytes strings.Builder
	for _, cell := range c.cells {
		for cell > lowBits {
			bytes.WriteByte(byte(cell&lowBits | moreBit))
			cell >>= bitsOfByte
		}
		bytes.WriteByte(byte(cell))
	}
	return bytes.String()
}
