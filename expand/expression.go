package expand

import (
	"strings"

	"graftwood/api"
	"graftwood/macro"
)

// expander goes through a form from the left, each thing ahead of what is in it, and throws the first error that it meets.
type expander struct {
	scope  api.Scope
	which  int
	around parameters
	uses   int // of macros, so far
	nodes  int // of core expressions, so far
}

// node counts a core node where it begins: its kids come behind that.
func (e *expander) node(c api.Core) api.Core {
	e.nodes++
	must(e.nodes <= api.MaxCore, api.ErrMuch)
	return c
}

// with is c with l as expressions behind its other kids.
func (e *expander) with(c api.Core, l []api.Datum) api.Core {
	for _, d := range l {
		c.Kids = append(c.Kids, e.expression(d))
	}
	return c
}

func (e *expander) expression(d api.Datum) api.Core {
	switch d.Kind {
	case api.DNum:
		return e.node(api.Core{Kind: api.CNum, N: d.N})
	case api.DBool:
		return e.node(api.Core{Kind: api.CBool, N: d.N})
	case api.DSym:
		return e.symbol(d)
	case api.DList:
		return e.list(d)
	}
	panic(thrown{api.ErrForm})
}

// symbol is one that stands for a value: special words and macros do not.
func (e *expander) symbol(d api.Datum) api.Core {
	switch m := e.standsFor(d); m.kind {
	case isParameter:
		return e.node(api.Core{Kind: api.CLocal, Index: m.index})
	case isPrimitive:
		return e.node(api.Core{Kind: api.CPrim, Own: strings.Clone(m.own)})
	case isGlobal:
		return e.node(owned(api.CGlobal, m))
	}
	panic(thrown{api.ErrForm})
}

// owned is a node of what a library owns: it holds no text of whoever handed the scope in.
func owned(kind int, m meaning) api.Core {
	return api.Core{Kind: kind, Lib: strings.Clone(m.lib), Own: strings.Clone(m.own)}
}

func (e *expander) list(d api.Datum) api.Core {
	must(len(d.Kids) > 0, api.ErrForm)
	if d.Kids[0].Kind == api.DSym {
		switch m := e.standsFor(d.Kids[0]); m.kind {
		case isMacro:
			return e.expression(e.used(m, d))
		case isSpecial:
			return e.special(m.own, d.Kids[1:])
		}
	}
	return e.with(e.node(api.Core{Kind: api.CCall}), d.Kids)
}

// used is what a macro makes of d: each use has a stamp of its own, so that no name that it brings is another's.
func (e *expander) used(m meaning, d api.Datum) api.Datum {
	e.uses++
	must(e.uses <= api.MaxUses, api.ErrSteps)
	out, err := macro.Use(m.macro, d, e.uses, m.home)
	must(err == api.OK, err)
	return out
}

// nested tells how deep c is nested.
func nested(c api.Core) int {
	deepest := 0
	for _, kid := range c.Kids {
		deepest = max(deepest, nested(kid))
	}
	return deepest + 1
}
