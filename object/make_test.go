package object_test

import (
	"fmt"
	"reflect"
	"slices"
	"strconv"
	"strings"
	"testing"

	"graftwood/api"
	"graftwood/object"
	"graftwood/text"
)

func num(n int64) api.Ins     { return api.Ins{Op: api.INum, N: n} }
func boolean(n int64) api.Ins { return api.Ins{Op: api.IBool, N: n} }
func quote(d api.Datum) api.Ins {
	return api.Ins{Op: api.IQuote, Quote: d}
}
func with(op, a int) api.Ins             { return api.Ins{Op: op, A: a} }
func of(op int, lib, own string) api.Ins { return api.Ins{Op: op, Lib: lib, Own: own} }
func prim(own string) api.Ins            { return api.Ins{Op: api.IPrim, Own: own} }

var (
	pop = api.Ins{Op: api.IPop}
	ret = api.Ins{Op: api.IReturn}
)

func sym(s string) api.Datum        { return api.Datum{Kind: api.DSym, Name: s} }
func list(l ...api.Datum) api.Datum { return api.Datum{Kind: api.DList, Kids: l} }

func proto(args int, l ...api.Ins) api.Proto { return api.Proto{Args: args, Code: l} }
func unit(l ...api.Proto) api.Unit           { return api.Unit{Name: "m", Protos: l} }

// alone is a unit of one procedure.
func alone(l ...api.Ins) api.Unit { return unit(proto(0, l...)) }

// valued is a unit of which l makes one value.
func valued(l ...api.Ins) api.Unit { return alone(append(slices.Clip(l), pop, ret)...) }

func times(n int, l ...api.Ins) []api.Ins { return slices.Repeat(l, n) }

// procedures is those of s: `0: fn1 pop ret | 2: @1 ret` is a body, and a procedure of two arguments.
func procedures(s string) []api.Proto {
	var out []api.Proto
	for _, one := range strings.Split(s, "|") {
		words := strings.Fields(one)
		args, err := strconv.Atoi(strings.TrimSuffix(words[0], ":"))
		if err != nil {
			panic(s)
		}
		p := api.Proto{Args: args}
		for _, w := range words[1:] {
			p.Code = append(p.Code, instruction(w))
		}
		out = append(out, p)
	}
	return out
}

// instruction is one by a word: 5 #1 'a @2 m.x car fn1 call2 to3 unless3 set@2 set:m.x def:m.x pop ret.
func instruction(w string) api.Ins {
	if n, err := strconv.ParseInt(w, 10, 64); err == nil {
		return num(n)
	}
	if s, ok := strings.CutPrefix(w, "#"); ok {
		n, _ := strconv.ParseInt(s, 10, 64)
		return boolean(n)
	}
	if s, ok := strings.CutPrefix(w, "'"); ok {
		l, _ := text.Read(s)
		return quote(l[0])
	}
	for _, x := range []struct {
		op int
		w  string
	}{{api.ISetLocal, "set@"}, {api.ILocal, "@"}, {api.IClosure, "fn"}, {api.ICall, "call"}, {api.IJump, "to"}, {api.IUnless, "unless"}} {
		if s, ok := strings.CutPrefix(w, x.w); ok {
			a, err := strconv.Atoi(s)
			if err != nil {
				panic(w)
			}
			return with(x.op, a)
		}
	}
	op := api.IGlobal
	g, ok := strings.CutPrefix(w, "set:")
	if ok {
		op = api.ISetGlobal
	}
	if s, ok := strings.CutPrefix(w, "def:"); ok {
		op, g = api.IDefine, s
	}
	if lib, own, ok := strings.Cut(g, "."); ok {
		return of(op, lib, own)
	}
	switch w {
	case "pop":
		return pop
	case "ret":
		return ret
	}
	return prim(w)
}

// brief is how something begins, where it is long.
func brief(x any) string {
	s := fmt.Sprint(x)
	return s[:min(len(s), 300)]
}

// right: nothing is wrong with u, and of its bytes it comes again.
func right(t *testing.T, u api.Unit) []byte {
	t.Helper()
	if err := object.Wrong(u); err != api.OK {
		t.Errorf("%s: %v is wrong", brief(u), err)
	}
	b, err := object.Bytes(u)
	if err != api.OK {
		t.Errorf("%s: %v comes beside its bytes", brief(u), err)
		return nil
	}
	again, err := object.Parse(b)
	if err != api.OK || !same(again, u) {
		t.Errorf("%s comes of the bytes of %s, %v", brief(again), brief(u), err)
	}
	return b
}

// wrong: that is wrong with u, and it has no bytes.
func wrong(t *testing.T, u api.Unit, want api.Errno) {
	t.Helper()
	if err := object.Wrong(u); err != want {
		t.Errorf("%s: %v is wrong, not %v", brief(u), err, want)
	}
	if b, err := object.Bytes(u); err != want || b != nil {
		t.Errorf("%s: its bytes are %s, %v, not %v", brief(u), brief(b), err, want)
	}
}

// refused: that is wrong with b.
func refused(t *testing.T, b []byte, want api.Errno) {
	t.Helper()
	u, err := object.Parse(b)
	if err != want || !reflect.DeepEqual(u, api.Unit{}) {
		t.Errorf("Parse of %s is %s, %v, not %v", brief(b), brief(u), err, want)
	}
}

// same tells whether both are the same unit: nil and a list without entries are.
func same(a, b api.Unit) bool {
	return reflect.DeepEqual(tidy(a), tidy(b))
}

func tidy(u api.Unit) api.Unit {
	u.Protos = slices.Clone(u.Protos)
	for i := range u.Protos {
		u.Protos[i].Code = slices.Clone(u.Protos[i].Code)
		for j := range u.Protos[i].Code {
			in := &u.Protos[i].Code[j]
			in.Quote = tidyDatum(in.Quote)
		}
	}
	return u
}

func tidyDatum(d api.Datum) api.Datum {
	var kids []api.Datum
	for _, k := range d.Kids {
		kids = append(kids, tidyDatum(k))
	}
	d.Kids = kids
	return d
}
