package expand

import (
	"graftwood/api"
	"graftwood/text"
)

// special is what a special word makes of what stands behind it. Definitions are no expressions.
func (e *expander) special(name string, l []api.Datum) api.Core {
	switch name {
	case "quote":
		must(len(l) == 1, api.ErrForm)
		return e.node(api.Core{Kind: api.CQuote, Quote: text.Bare(l[0])})
	case "if":
		must(len(l) == 3, api.ErrForm)
		return e.with(e.node(api.Core{Kind: api.CIf}), l)
	case "begin":
		return e.body(l)
	case "lambda":
		must(beginsWithList(l), api.ErrForm)
		return e.lambda(l[0].Kids, l[1:])
	case "let":
		must(beginsWithList(l), api.ErrForm)
		return e.let(l[0].Kids, l[1:])
	case "set!":
		must(len(l) == 2 && l[0].Kind == api.DSym, api.ErrForm)
		return e.with(e.set(l[0]), l[1:])
	}
	panic(thrown{api.ErrForm})
}

func beginsWithList(l []api.Datum) bool {
	return len(l) > 0 && l[0].Kind == api.DList
}

func (e *expander) body(l []api.Datum) api.Core {
	must(len(l) > 0, api.ErrForm)
	return e.with(e.node(api.Core{Kind: api.CSeq}), l)
}

// lambda tells what is wrong with its parameters first: a body that has nothing is wrong behind them.
func (e *expander) lambda(params, body []api.Datum) api.Core {
	e.around.enterAll(params)
	c := e.node(api.Core{Kind: api.CLambda, Index: len(params)})
	c.Kids = []api.Core{e.body(body)}
	e.around.leave(len(params))
	return c
}

// let calls a procedure of the names with the values, which do not see the names.
func (e *expander) let(pairs, body []api.Datum) api.Core {
	var names, values []api.Datum
	for _, p := range pairs {
		must(p.Kind == api.DList && len(p.Kids) == 2, api.ErrForm)
		names = append(names, p.Kids[0])
		values = append(values, p.Kids[1])
	}
	c := e.node(api.Core{Kind: api.CCall})
	c.Kids = []api.Core{e.lambda(names, body)}
	return e.with(c, values)
}

// set is the node that sets what d stands for, without what it is set to.
func (e *expander) set(d api.Datum) api.Core {
	m := e.standsFor(d)
	if m.kind == isParameter {
		return e.node(api.Core{Kind: api.CSetLocal, Index: m.index})
	}
	must(m.kind != isSpecial && m.kind != isMacro, api.ErrForm)
	return e.mine(api.CSetGlobal, m)
}

// mine is a node of what only the library itself may set.
func (e *expander) mine(kind int, m meaning) api.Core {
	must(m.lib == e.scope.Tops[e.which].Name, api.ErrSet)
	return e.node(owned(kind, m))
}
