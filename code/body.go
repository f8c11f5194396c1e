package code

import "surefoot/api"

// body goes through the body of a function. How much lies on the stack at a cell does not hang on the way there: one jumps only where nothing lies on it.
func (k *checker) body(f *Function) {
	f.Start = k.at
	k.depth, k.isPaid, k.jumps = 0, false, nil
	for !k.isNext(End) && !k.isWrong {
		k.mark()
		k.instruction()
	}
	k.mark()
	k.want(k.skips(End) && k.depth == 0)
	for _, j := range k.jumps {
		k.want(j.to >= f.Start && j.to < k.at && k.isLanding(j))
	}
}

// mark writes down from where one may jump to the next instruction. Behind a Begin one may only where the fuel that it took is no more asked for.
func (k *checker) mark() {
	switch {
	case k.isWrong || k.depth > 0:
	case k.isNext(Round):
		k.lands[k.at] = anywhere
	case !k.isPaid && k.at < len(k.lands):
		k.lands[k.at] = ahead
	}
}

func (k *checker) isLanding(j jump) bool {
	return k.lands[j.to] == anywhere || k.lands[j.to] == ahead && j.from < j.to
}

func (k *checker) instruction() {
	switch op := Op(k.operand(int(Number), int(End))); op {
	case Number:
		k.operand(0, api.MaxNumber)
		k.works(0, 1)
	case Variable:
		k.operand(0, api.MaxVars-1)
		k.works(0, 1)
	case Negate:
		k.works(1, 1)
	case Plus, Minus, Times, Divide, Rest:
		k.works(2, 1)
	case Load:
		k.array()
		k.works(1, 1)
	case Call:
		k.works(k.function().Params, 1)
	case LookLoad, LookStore, LookDivide, LookCall:
		k.look(op)
	default:
		k.statement(op)
	}
}

func (k *checker) look(op Op) {
	needs := 1
	switch op {
	case LookLoad:
		k.array()
	case LookStore:
		k.array()
		needs = 2
	case LookCall:
		needs = k.function().Params
	}
	k.operand(0, api.MaxNumber)
	k.works(needs, needs)
}

func (k *checker) statement(op Op) {
	isPaid := k.isPaid
	k.isPaid = op == Begin
	switch op {
	case Set:
		k.operand(0, api.MaxVars-1)
		k.ends(1)
	case Store:
		k.array()
		k.ends(2)
	case Out:
		k.want(isPaid)
		k.ends(1)
	case Return:
		k.ends(1)
	case Jump:
		k.jump()
		k.ends(0)
	case JumpIf:
		k.jump()
		k.operand(0, int(Unequal))
		k.ends(2)
	default:
		k.ends(0)
	}
}

func (k *checker) array() { k.operand(0, len(k.Arrays)-1) }

func (k *checker) function() Function {
	which := k.operand(0, len(k.Funcs)-1)
	return k.Funcs[which]
}

// works takes so many numbers from the stack and puts so many on it.
func (k *checker) works(takes, gives int) {
	k.want(k.depth >= takes)
	k.depth += gives - takes
}

// ends takes all that lies on the stack, which must be so many.
func (k *checker) ends(takes int) {
	k.want(k.depth == takes)
	k.depth = 0
}

func (k *checker) jump() {
	from := k.at
	k.jumps = append(k.jumps, jump{from: from, to: k.operand(0, api.MaxNumber)})
}
