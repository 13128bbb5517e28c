package expand

import "graftwood/api"

// top is a form on a top: there alone definitions stand. What a macro makes is an expression.
func (e *expander) top(d api.Datum) api.Core {
	if d.Kind == api.DList && len(d.Kids) > 0 && e.isDefine(d.Kids[0]) {
		return e.define(d.Kids[1:])
	}
	return e.expression(d)
}

func (e *expander) isDefine(d api.Datum) bool {
	if d.Kind != api.DSym {
		return false
	}
	m := e.standsFor(d)
	return m.kind == isSpecial && m.own == "define"
}

func (e *expander) define(l []api.Datum) api.Core {
	must(len(l) >= 2, api.ErrForm)
	if l[0].Kind != api.DList {
		must(len(l) == 2, api.ErrForm)
		return e.with(e.defined(l[0]), l[1:])
	}
	head := l[0].Kids
	must(len(head) > 0, api.ErrForm)
	c := e.defined(head[0])
	c.Kids = []api.Core{e.lambda(head[1:], l[1:])}
	return c
}

// defined is the node that defines what d stands for, without what it is.
func (e *expander) defined(d api.Datum) api.Core {
	must(d.Kind == api.DSym, api.ErrForm)
	m := e.standsFor(d)
	must(m.kind != isMacro, api.ErrSet)
	return e.mine(api.CDefine, m)
}
