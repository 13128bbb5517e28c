package model

import "graftwood/api"

// global is what is called own in library lib.
type global struct {
	lib, own string
}

// runner goes through expressions, and throws how the run ends, if it ends ahead of their end.
type runner struct {
	output
	left    int // steps
	calls   int // of procedures, that go on
	globals map[global]value
}

func (r *runner) run(l []api.Part) (how int) {
	return attempt(func() {
		for _, p := range l {
			for i := range p.Body {
				r.eval(&p.Body[i], nil)
			}
		}
	})
}

// eval is the value of c, with which nothing is wrong.
func (r *runner) eval(c *api.Core, around *frame) value {
	must(r.left > 0, api.RunSteps)
	r.left--
	switch c.Kind {
	case api.CNum:
		return number(c.N)
	case api.CBool:
		return truth(c.N == 1)
	case api.CQuote:
		return quoted(&c.Quote)
	case api.CLocal:
		return *around.at(c.Index)
	case api.CGlobal:
		v, ok := r.globals[globalOf(c)]
		must(ok, api.RunName)
		return v
	case api.CPrim:
		return primitive(c.Own)
	case api.CIf:
		return r.choose(c, around)
	case api.CLambda:
		return &procedure{args: c.Index, body: &c.Kids[0], around: around}
	case api.CCall:
		return r.call(r.all(c.Kids, around))
	case api.CSeq:
		return r.last(c.Kids, around)
	}
	return r.set(c, r.eval(&c.Kids[0], around), around)
}

func globalOf(c *api.Core) global {
	return global{lib: c.Lib, own: c.Own}
}

func (r *runner) choose(c *api.Core, around *frame) value {
	if r.eval(&c.Kids[0], around) == truth(false) {
		return r.eval(&c.Kids[2], around)
	}
	return r.eval(&c.Kids[1], around)
}

// all is the values of l, in memory of their own: they may become parameters.
func (r *runner) all(l []api.Core, around *frame) []value {
	out := make([]value, len(l))
	for i := range l {
		out[i] = r.eval(&l[i], around)
	}
	return out
}

func (r *runner) last(l []api.Core, around *frame) value {
	var v value
	for i := range l {
		v = r.eval(&l[i], around)
	}
	return v
}

// set gives v to what c names.
func (r *runner) set(c *api.Core, v value, around *frame) value {
	if c.Kind == api.CSetLocal {
		*around.at(c.Index) = v
		return v
	}
	g := globalOf(c)
	if c.Kind == api.CSetGlobal {
		_, ok := r.globals[g]
		must(ok, api.RunName)
	}
	r.globals[g] = v
	return v
}

// call calls the first one of l with the others.
func (r *runner) call(l []value) value {
	args := l[1:]
	switch f := l[0].(type) {
	case primitive:
		must(len(args) == argsOf(string(f)), api.RunArgs)
		return r.primitive(f, args)
	case *procedure:
		must(len(args) == f.args, api.RunArgs)
		return r.procedure(f, args)
	}
	panic(ended{api.RunType})
}

// procedure is the value of f's body. Without arguments it has no frame of its own, so that there is none to go through in vain.
func (r *runner) procedure(f *procedure, args []value) value {
	must(r.calls < api.MaxCalls, api.RunMuch)
	around := f.around
	if len(args) > 0 {
		around = &frame{params: args, around: around}
	}
	r.calls++
	v := r.eval(f.body, around)
	r.calls--
	return v
}
