package expand

import (
	"slices"

	"graftwood/api"
)

// Kinds of what a symbol stands for.
const (
	isParameter = 1 // index
	isSpecial   = 2 // own
	isPrimitive = 3 // own
	isMacro     = 4 // macro, home
	isGlobal    = 5 // own
)

// meaning is what a symbol stands for; all but parameters are own of lib.
type meaning struct {
	kind     int
	index    int // how many parameters are nearer
	lib, own string
	macro    api.Macro
	home     int // the number of the macro's library
}

// standsFor throws, if d stands for nothing.
func (e *expander) standsFor(d api.Datum) meaning {
	if nearer, ok := e.around.index(wordOf(d)); ok {
		return meaning{kind: isParameter, index: nearer}
	}
	b := e.bind(d)
	out := meaning{kind: isGlobal, lib: b.Lib, own: b.Own}
	if b.Lib == base {
		out.kind = kindOfBase(b.Own)
		return out
	}
	at := slices.IndexFunc(e.scope.Macros, func(m api.Def) bool { return m.Lib == b.Lib && m.Own == b.Own })
	if at >= 0 {
		out.kind = isMacro
		out.macro = e.scope.Macros[at].Macro
		out.home = slices.IndexFunc(e.scope.Tops, func(t api.Top) bool { return t.Name == b.Lib })
	}
	return out
}

// bind is what d's name stands for on the top that it speaks of: what a macro brought speaks of its library's.
func (e *expander) bind(d api.Datum) api.Bind {
	number := e.which
	if d.Stamp != 0 {
		number = d.Lib
	}
	must(0 <= number && number < len(e.scope.Tops), api.ErrName)
	binds := e.scope.Tops[number].Binds
	at := slices.IndexFunc(binds, func(b api.Bind) bool { return b.Here == d.Name })
	must(at >= 0, api.ErrName)
	return binds[at]
}

func kindOfBase(own string) int {
	if slices.Contains(Specials(), own) {
		return isSpecial
	}
	must(slices.Contains(Prims(), own), api.ErrName)
	return isPrimitive
}
