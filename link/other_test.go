package link_test

import (
	"math/rand"
	"reflect"
	"slices"
	"strings"
	"testing"

	"graftwood/api"
	"graftwood/code"
	"graftwood/link"
	"graftwood/object"
)

// mention is an instruction about a global, and where it stands.
type mention struct {
	unit, op int
	name     string
}

// mentions is all of l, in order.
func mentions(l []api.Unit) []mention {
	var out []mention
	for i, u := range l {
		for _, p := range u.Protos {
			for _, in := range p.Code {
				if in.Op == api.IGlobal || in.Op == api.ISetGlobal || in.Op == api.IDefine {
					out = append(out, mention{i, in.Op, in.Lib + "\n" + in.Own})
				}
			}
		}
	}
	return out
}

// otherFault says what is wrong another way: all that is wrong by itself, then all mentions, gone through again and again.
func otherFault(l []api.Unit) api.Fault {
	if len(l) > 40 {
		return api.Fault{Err: api.ErrMany}
	}
	all := mentions(l)
	foreign := func(m mention) bool { return !strings.HasPrefix(m.name, l[m.unit].Name+"\n") }
	for i, u := range l {
		err := object.Wrong(u)
		if err == api.OK && slices.IndexFunc(l, func(x api.Unit) bool { return x.Name == u.Name }) < i {
			err = api.ErrName
		}
		if err == api.OK && slices.ContainsFunc(all, func(m mention) bool { return m.unit == i && m.op == api.IDefine && foreign(m) }) {
			err = api.ErrSet
		}
		if err != api.OK {
			return api.Fault{Err: err, At: i}
		}
	}
	known := otherGlobals(all)
	if len(known) > 500 {
		return api.Fault{Err: api.ErrMuch}
	}
	for _, m := range all {
		if !slices.Contains(known, m.name) {
			return api.Fault{Err: api.ErrName, At: m.unit}
		}
		if m.op == api.ISetGlobal && foreign(m) {
			return api.Fault{Err: api.ErrSet, At: m.unit}
		}
	}
	return api.Fault{}
}

func otherGlobals(all []mention) []string {
	var out []string
	for _, m := range all {
		if m.op == api.IDefine && !slices.Contains(out, m.name) {
			out = append(out, m.name)
		}
	}
	return out
}

// apart takes an image apart into units again: their names are those of want, all else is as the image says.
func apart(im api.Image, want []api.Unit) []api.Unit {
	var out []api.Unit
	ends := append(slices.Clone(im.Starts), len(im.Protos))[min(1, len(im.Starts)):]
	for i, start := range im.Starts {
		u := api.Unit{Name: want[i].Name}
		for _, p := range im.Protos[start:ends[i]] {
			p.Code = slices.Clone(p.Code)
			for j := range p.Code {
				in := &p.Code[j]
				switch in.Op {
				case api.IClosure:
					in.A -= start
				case api.IGlobal, api.ISetGlobal, api.IDefine:
					g := im.Globals[in.A]
					in.A, in.Lib, in.Own = 0, g.Lib, g.Own
				}
			}
			u.Protos = append(u.Protos, p)
		}
		out = append(out, u)
	}
	return out
}

// chance makes units.
type chance struct{ *rand.Rand }

func (c chance) some(l ...string) string { return l[c.Intn(len(l))] }

// core is an expression of library name, that may ask for what is another library's, but mostly leaves that as it is.
func (c chance) core(name string, around, deep int) api.Core {
	kind := 4 + c.Intn(10)
	if deep <= 0 {
		kind = 1 + c.Intn(6)
	}
	if around == 0 && (kind == api.CLocal || kind == api.CSetLocal) {
		kind = api.CDefine
	}
	out := api.Core{Kind: kind, N: c.Int63n(2), Lib: name, Own: c.some("x", "y", "z")}
	kids := map[int]int{api.CIf: 3, api.CLambda: 1, api.CSetLocal: 1, api.CSetGlobal: 1, api.CDefine: 1, api.CCall: 1 + c.Intn(3), api.CSeq: 1 + c.Intn(3)}[kind]
	switch kind {
	case api.CGlobal:
		out.Lib = c.some(name, name, libs[0], libs[1])
	case api.CSetGlobal, api.CDefine:
		if c.Intn(60) == 0 {
			out.Lib = c.some(libs...)
		}
	case api.CQuote:
		out.Quote = []api.Datum{sym("a"), list(), list(sym("b"), list(sym("c")))}[c.Intn(3)]
	case api.CLocal, api.CSetLocal:
		out.Index = c.Intn(around)
	case api.CPrim:
		out.Own = c.some("car", "+", "out")
	case api.CLambda:
		out.Index = c.Intn(3)
		around += out.Index
	}
	for range kids {
		out.Kids = append(out.Kids, c.core(name, around, deep-1))
	}
	return out
}

var libs = []string{"m", "a b", "", "n", "k"}

func (c chance) unit(t *testing.T, name string) api.Unit {
	p := api.Part{Name: name}
	for range c.Intn(4) {
		p.Body = append(p.Body, c.core(name, 0, 1+c.Intn(4)))
	}
	for _, own := range []string{"x", "y", "z"} {
		if c.Intn(8) > 0 {
			p.Body = append(p.Body, api.Core{Kind: api.CDefine, Lib: name, Own: own, Kids: []api.Core{{Kind: api.CNum}}})
		}
	}
	u, err := code.Compile(p)
	if err != api.OK {
		t.Fatalf("%v: %v", p, err)
	}
	return u
}

// units is some that were compiled, a few of them spoilt.
func (c chance) units(t *testing.T) []api.Unit {
	var out []api.Unit
	names := slices.Clone(libs)
	if c.Intn(3) > 0 {
		c.Shuffle(3, func(i, j int) { names[i+2], names[j+2] = names[j+2], names[i+2] })
	}
	if c.Intn(10) == 0 {
		names[c.Intn(5)] = c.some(libs...)
	}
	for _, name := range names[:c.Intn(6)] {
		u := c.unit(t, name)
		if c.Intn(40) == 0 {
			p := u.Protos[c.Intn(len(u.Protos))]
			p.Code[c.Intn(len(p.Code))] = api.Ins{Op: c.Intn(17), A: c.Intn(3), N: c.Int63n(3), Lib: c.some(libs...), Own: c.some("x", "car")}
		}
		out = append(out, u)
	}
	return out
}

// J1, J2: what is wrong is what another way of doing it says; of the image of what is right all units come again, and its globals are in order.
func TestJ1J2AsOther(t *testing.T) {
	c := chance{rand.New(rand.NewSource(10))}
	met := map[api.Fault]int{}
	for range 30000 {
		l := c.units(t)
		im, f := link.Link(l)
		met[f]++
		if want := otherFault(l); f != want {
			t.Fatalf("%v: %v, not %v", l, f, want)
		}
		if f.Err != api.OK {
			if !reflect.DeepEqual(im, api.Image{}) {
				t.Fatalf("%v comes beside %v", im, f)
			}
			continue
		}
		var globals []string
		for _, g := range im.Globals {
			globals = append(globals, g.Here+g.Lib+"\n"+g.Own)
		}
		if want := otherGlobals(mentions(l)); !slices.Equal(globals, want) {
			t.Fatalf("%v: the globals are %q, not %q", l, globals, want)
		}
		linked(t, l)
		if again := apart(im, l); !alike(again, l) {
			t.Fatalf("%v becomes %v", l, again)
		}
	}
	for _, err := range []api.Errno{api.OK, api.ErrName, api.ErrSet, api.ErrFit} {
		for at := range 4 {
			if f := (api.Fault{Err: err, At: at}); met[f] < 20 && (err != api.OK || at == 0) {
				t.Errorf("%v came %d times", f, met[f])
			}
		}
	}
	if met[api.Fault{}] < 5000 {
		t.Errorf("only %d are right", met[api.Fault{}])
	}
}

// alike tells whether both are the same units, with no more in any instruction than its kind has.
func alike(a, b []api.Unit) bool {
	return slices.EqualFunc(a, b, func(x, y api.Unit) bool {
		return x.Name == y.Name && same(api.Image{Protos: x.Protos}, api.Image{Protos: bare(y).Protos})
	})
}

// bare is u as bytes have it.
func bare(u api.Unit) api.Unit {
	b, _ := object.Bytes(u)
	u, _ = object.Parse(b)
	return u
}
