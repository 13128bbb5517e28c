package object

import (
	"slices"

	"graftwood/api"
)

// heights are those at which each instruction of a procedure is come to, as far as that is known.
type heights []int

// unmet is the height of an instruction that none ahead goes on to.
const unmet = -1

// usesStackWell can go through l just once, since what is come to from behind is wrong by itself.
func usesStackWell(l []api.Ins, body bool) bool {
	h := heights(slices.Repeat([]int{unmet}, len(l)))
	h[0] = 0
	last := 1
	if body {
		last = 0
	}
	for place := range l {
		if h[place] == unmet || !h.leave(place, &l[place], last) {
			return false
		}
	}
	return true
}

// leave goes on from an instruction to all that may come next, and tells whether it may; last is the height at which a procedure may end.
func (h heights) leave(place int, in *api.Ins, last int) bool {
	takes, puts := moves(in)
	if h[place] < takes {
		return false
	}
	height := h[place] - takes + puts
	switch in.Op {
	case api.IReturn:
		return height == last
	case api.IJump:
		return h.reach(place, in.A, height)
	case api.IUnless:
		return h.reach(place, in.A, height) && h.reach(place, place+1, height)
	}
	return h.reach(place, place+1, height)
}

// reach goes from one place to another one, and tells whether it may.
func (h heights) reach(from, to, height int) bool {
	if to <= from || to >= len(h) {
		return false
	}
	if h[to] == unmet {
		h[to] = height
	}
	return h[to] == height
}

// moves is how many an instruction takes off the stack, and then puts there.
func moves(in *api.Ins) (takes, puts int) {
	switch in.Op {
	case api.INum, api.IBool, api.IQuote, api.ILocal, api.IGlobal, api.IPrim, api.IClosure:
		return 0, 1
	case api.ICall:
		return in.A + 1, 1
	case api.IUnless, api.IPop:
		return 1, 0
	case api.ISetLocal, api.ISetGlobal, api.IDefine:
		return 1, 1
	}
	return 0, 0
}
