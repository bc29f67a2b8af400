package compile

import "simproof/api"

// Verify reports why bytecode is invalid.
func Verify(p api.Program) api.Errno {
	switch {
	case len(p.Code) > api.MaxCode:
		return api.ErrLimit
	case !validVariables(p) || !validCode(p) || !validEntries(p) || runsOut(p):
		return api.ErrCode
	}
	for _, entry := range p.Entry {
		if entry >= 0 && !stackFits(p.Code, entry) {
			return api.ErrStack
		}
	}
	return api.OK
}

// validVariables reports whether the numbers of variables are allowed. Their sum is not computed, because it may overflow.
func validVariables(p api.Program) bool {
	return p.Durable >= 0 && p.Volatile >= 0 && p.Durable <= api.MaxVars && p.Volatile <= api.MaxVars-p.Durable
}

// validCode reports whether all instructions have a known opcode and a valid operand.
func validCode(p api.Program) bool {
	for _, in := range p.Code {
		least, most := operands(p, in.Op)
		if in.Op < api.OpPush || in.Op > api.OpStop || in.N < least || in.N > most {
			return false
		}
	}
	return true
}

// operands returns the least and the greatest valid operand of an opcode.
func operands(p api.Program, op int) (least, most int) {
	switch op {
	case api.OpPush:
		return -api.MaxValue, api.MaxValue
	case api.OpVar, api.OpSetVar:
		return 0, p.Durable + p.Volatile - 1
	case api.OpName:
		return 0, api.Names - 1
	case api.OpSend:
		return 0, api.MaxKinds - 1
	case api.OpTimer, api.OpCancel:
		return 0, api.MaxTimers - 1
	case api.OpJump, api.OpUnless:
		return 0, len(p.Code) - 1
	}
	return 0, 0
}

// validEntries reports whether every entry is -1 or the index of an instruction.
func validEntries(p api.Program) bool {
	for _, entry := range p.Entry {
		if entry < -1 || entry >= len(p.Code) {
			return false
		}
	}
	return true
}

// successors returns the indices of the instructions that may follow the one at this index.
func successors(code []api.Ins, at int) []int {
	switch in := code[at]; in.Op {
	case api.OpJump:
		return []int{in.N}
	case api.OpUnless:
		return []int{at + 1, in.N}
	case api.OpStop:
		return nil
	}
	return []int{at + 1}
}

// runsOut reports whether some path from an entry leads behind the last instruction.
func runsOut(p api.Program) bool {
	reached := make([]bool, len(p.Code)+1)
	var reach func(at int)
	reach = func(at int) {
		if reached[at] {
			return
		}
		reached[at] = true
		if at < len(p.Code) {
			for _, next := range successors(p.Code, at) {
				reach(next)
			}
		}
	}
	for _, entry := range p.Entry {
		if entry >= 0 {
			reach(entry)
		}
	}
	return reached[len(p.Code)]
}

// stackUse returns how many values an instruction pops and how many it pushes then.
func stackUse(op int) (pops, pushes int) {
	switch op {
	case api.OpPush, api.OpVar, api.OpName:
		return 0, 1
	case api.OpDraw, api.OpNeg, api.OpNot:
		return 1, 1
	case api.OpAdd, api.OpSub, api.OpMul, api.OpDiv, api.OpLt, api.OpLe, api.OpEq:
		return 2, 1
	case api.OpSetVar, api.OpUnless, api.OpFail:
		return 1, 0
	case api.OpReply:
		return 2, 0
	case api.OpSend:
		return 3, 0
	}
	return 0, 0
}

// stackFits reports whether on all paths from an entry the stack has the values that are popped, has at most StackSize values, and is equally deep whenever an instruction is reached.
func stackFits(code []api.Ins, entry int) bool {
	depths := map[int]int{} // by the indices of the instructions that were reached
	var fits func(at, depth int) bool
	fits = func(at, depth int) bool {
		// One visit suffices: a path that comes back with the same depth goes on like the first one.
		if known, ok := depths[at]; ok {
			return depth == known
		}
		depths[at] = depth
		pops, pushes := stackUse(code[at].Op)
		after := depth - pops + pushes
		if depth < pops || after > api.StackSize {
			return false
		}
		for _, next := range successors(code, at) {
			if !fits(next, after) {
				return false
			}
		}
		return true
	}
	return fits(entry, 0)
}
