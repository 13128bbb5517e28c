package model

import (
	"graftwood/api"
	"graftwood/value"
)

// global is what is called own in library lib.
type global struct {
	lib, own string
}

// procedure takes so many arguments, and is made where parameters are around.
type procedure struct {
	args   int
	body   *api.Core
	around *value.Frame
}

// runner goes through expressions, and throws how the run ends, if it ends ahead of their end.
type runner struct {
	value.Output
	left    int // steps
	calls   int // of procedures, that go on
	globals map[global]value.Value
}

func (r *runner) run(l []api.Part) (how int) {
	defer func() {
		if p := recover(); p != nil {
			how = value.Ended(p)
		}
	}()
	for _, p := range l {
		for i := range p.Body {
			r.eval(&p.Body[i], &value.Frame{})
		}
	}
	return api.RunDone
}

// eval is the value of c, with which nothing is wrong.
func (r *runner) eval(c *api.Core, around *value.Frame) value.Value {
	value.Must(r.left > 0, api.RunSteps)
	r.left--
	switch c.Kind {
	case api.CNum:
		return value.Number(c.N)
	case api.CBool:
		return value.Truth(c.N == 1)
	case api.CQuote:
		return value.Quoted(&c.Quote)
	case api.CLocal:
		return *around.At(c.Index)
	case api.CGlobal:
		v, ok := r.globals[globalOf(c)]
		value.Must(ok, api.RunName)
		return v
	case api.CPrim:
		return value.Primitive(c.Own)
	case api.CIf:
		return r.choose(c, around)
	case api.CLambda:
		return &procedure{args: c.Index, body: &c.Kids[0], around: around}
	case api.CCall:
		return r.call(r.all(c.Kids, around))
	case api.CSeq:
		return r.last(c.Kids, around)
	}
	return r.set(c, r.eval(&c.Kids[0], around), around)
}

func globalOf(c *api.Core) global {
	return global{lib: c.Lib, own: c.Own}
}

func (r *runner) choose(c *api.Core, around *value.Frame) value.Value {
	if r.eval(&c.Kids[0], around) == value.Truth(false) {
		return r.eval(&c.Kids[2], around)
	}
	return r.eval(&c.Kids[1], around)
}

// all is the values of l, in memory of their own: they may become parameters.
func (r *runner) all(l []api.Core, around *value.Frame) []value.Value {
	out := make([]value.Value, len(l))
	for i := range l {
		out[i] = r.eval(&l[i], around)
	}
	return out
}

func (r *runner) last(l []api.Core, around *value.Frame) value.Value {
	var v value.Value
	for i := range l {
		v = r.eval(&l[i], around)
	}
	return v
}

// set gives v to what c names.
func (r *runner) set(c *api.Core, v value.Value, around *value.Frame) value.Value {
	if c.Kind == api.CSetLocal {
		*around.At(c.Index) = v
		return v
	}
	g := globalOf(c)
	if c.Kind == api.CSetGlobal {
		_, ok := r.globals[g]
		value.Must(ok, api.RunName)
	}
	r.globals[g] = v
	return v
}

// call calls the first one of l with the others.
func (r *runner) call(l []value.Value) value.Value {
	args := l[1:]
	if p, ok := l[0].(value.Primitive); ok {
		return r.Primitive(p, args)
	}
	f, ok := l[0].(*procedure)
	value.Must(ok, api.RunType)
	value.Must(len(args) == f.args, api.RunArgs)
	value.Must(r.calls < api.MaxCalls, api.RunMuch)
	r.calls++
	v := r.eval(f.body, f.around.With(args))
	r.calls--
	return v
}
