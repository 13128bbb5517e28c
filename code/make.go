package code

import (
	"strings"

	"graftwood/api"
	"graftwood/text"
)

// maker makes procedures, of what is right and not too much.
type maker struct {
	protos []api.Proto
}

// tape is the code of a procedure, so far.
type tape []api.Ins

// put lays in behind what there is, and tells its place.
func (t *tape) put(in api.Ins) int {
	*t = append(*t, in)
	return len(*t) - 1
}

// land makes the jump at that place go to what comes next.
func (t tape) land(jump int) {
	t[jump].A = len(t)
}

// proto makes a procedure of what write writes, and tells its number. It takes that ahead of those in it.
func (m *maker) proto(args int, write func(t *tape)) int {
	number := len(m.protos)
	m.protos = append(m.protos, api.Proto{Args: args})
	var t tape
	write(&t)
	t.put(api.Ins{Op: api.IReturn})
	m.protos[number].Code = t
	return number
}

func (m *maker) body(l []api.Core) {
	m.proto(0, func(t *tape) {
		for i := range l {
			m.core(t, &l[i])
			t.put(api.Ins{Op: api.IPop})
		}
	})
}

// core writes the code of c: but for those kinds that write between their kids, the kids' code and one instruction.
func (m *maker) core(t *tape, c *api.Core) {
	switch c.Kind {
	case api.CLambda:
		number := m.proto(c.Index, func(inner *tape) { m.core(inner, &c.Kids[0]) })
		t.put(api.Ins{Op: api.IClosure, A: number})
	case api.CIf:
		m.choice(t, c.Kids)
	case api.CSeq:
		m.sequence(t, c.Kids)
	default:
		for i := range c.Kids {
			m.core(t, &c.Kids[i])
		}
		t.put(last(c))
	}
}

func (m *maker) choice(t *tape, kids []api.Core) {
	m.core(t, &kids[0])
	unless := t.put(api.Ins{Op: api.IUnless})
	m.core(t, &kids[1])
	jump := t.put(api.Ins{Op: api.IJump})
	t.land(unless)
	m.core(t, &kids[2])
	t.land(jump)
}

func (m *maker) sequence(t *tape, kids []api.Core) {
	for i := range kids {
		if i > 0 {
			t.put(api.Ins{Op: api.IPop})
		}
		m.core(t, &kids[i])
	}
}

// last is the instruction of c itself, behind its kids' code.
func last(c *api.Core) api.Ins {
	switch c.Kind {
	case api.CNum:
		return api.Ins{Op: api.INum, N: c.N}
	case api.CBool:
		return api.Ins{Op: api.IBool, N: c.N}
	case api.CQuote:
		return api.Ins{Op: api.IQuote, Quote: text.Bare(c.Quote)}
	case api.CLocal:
		return api.Ins{Op: api.ILocal, A: c.Index}
	case api.CSetLocal:
		return api.Ins{Op: api.ISetLocal, A: c.Index}
	case api.CGlobal:
		return named(api.IGlobal, c)
	case api.CSetGlobal:
		return named(api.ISetGlobal, c)
	case api.CDefine:
		return named(api.IDefine, c)
	case api.CPrim:
		return api.Ins{Op: api.IPrim, Own: strings.Clone(c.Own)}
	}
	return api.Ins{Op: api.ICall, A: len(c.Kids) - 1}
}

// named is an instruction about the global that c names.
func named(op int, c *api.Core) api.Ins {
	return api.Ins{Op: op, Lib: strings.Clone(c.Lib), Own: strings.Clone(c.Own)}
}
