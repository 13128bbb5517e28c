package machine

import (
	"slices"

	"graftwood/api"
	"graftwood/value"
)

// procedure is made where parameters are around.
type procedure struct {
	*api.Proto
	around *value.Frame
}

// place is where something goes on: with which of its instructions, and which parameters are around.
type place struct {
	code   []api.Ins
	next   int
	around *value.Frame
}

// runner goes through instructions, and throws how the run ends, if it ends ahead of their end.
type runner struct {
	value.Output
	stack
	place
	calls   []place // where those go on that wait for what they called
	protos  []api.Proto
	globals []value.Value // each nil, until it is defined
	left    int           // steps
}

func (r *runner) run(starts []int) (how int) {
	defer func() {
		if p := recover(); p != nil {
			how = value.Ended(p)
		}
	}()
	for _, number := range starts {
		r.place = place{code: r.protos[number].Code, around: &value.Frame{}}
		for r.step() {
		}
	}
	return api.RunDone
}

// step does the next instruction, and tells whether there is one behind it: not so, if it is the end of a body.
func (r *runner) step() bool {
	value.Must(r.left > 0, api.RunSteps)
	r.left--
	in := &r.code[r.next]
	r.next++
	switch in.Op {
	case api.INum:
		r.push(value.Number(in.N))
	case api.IBool:
		r.push(value.Truth(in.N == 1))
	case api.IQuote:
		r.push(value.Quoted(&in.Quote))
	case api.ILocal:
		r.push(*r.around.At(in.A))
	case api.IGlobal:
		r.push(*r.defined(in.A))
	case api.IPrim:
		r.push(value.Primitive(in.Own))
	case api.IClosure:
		r.push(&procedure{Proto: &r.protos[in.A], around: r.around})
	case api.ICall:
		r.call(in.A)
	case api.IJump:
		r.next = in.A
	case api.IUnless:
		if r.pop() == value.Truth(false) {
			r.next = in.A
		}
	case api.ISetLocal:
		*r.around.At(in.A) = r.top()
	case api.ISetGlobal:
		*r.defined(in.A) = r.top()
	case api.IDefine:
		r.globals[in.A] = r.top()
	case api.IPop:
		r.pop()
	case api.IReturn:
		return r.leave()
	}
	return true
}

// defined is where a global is kept, that must have been defined.
func (r *runner) defined(number int) *value.Value {
	g := &r.globals[number]
	value.Must(*g != nil, api.RunName)
	return g
}

// call calls what lies below n arguments with these.
func (r *runner) call(n int) {
	args := r.take(n)
	called := r.pop()
	if p, ok := called.(value.Primitive); ok {
		r.push(r.Primitive(p, args))
		return
	}
	f, ok := called.(*procedure)
	value.Must(ok, api.RunType)
	value.Must(n == f.Args, api.RunArgs)
	value.Must(len(r.calls) < api.MaxCalls, api.RunMuch)
	r.calls = append(r.calls, r.place)
	r.place = place{code: f.Code, around: f.around.With(slices.Clone(args))}
}

// leave goes on where the procedure was called, its value being on top already, and tells whether that was anywhere: a body is not called.
func (r *runner) leave() bool {
	last := len(r.calls) - 1
	if last < 0 {
		return false
	}
	r.place = r.calls[last]
	r.calls = r.calls[:last]
	return true
}
