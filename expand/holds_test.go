package expand_test

import (
	"fmt"
	"reflect"
	"strings"
	"testing"
	"unsafe"

	"graftwood/api"
	"graftwood/expand"
)

// Z1: what is among its own kids is too deep; where it is no list, it has none.
func TestZ1OwnKid(t *testing.T) {
	s := scope(t)
	loop := list(make([]api.Datum, 2)...)
	loop.Kids[0], loop.Kids[1] = sym("quote"), loop
	wide := list(make([]api.Datum, 50)...)
	for i := range wide.Kids {
		wide.Kids[i] = wide
	}
	for _, d := range []api.Datum{loop, wide} {
		failsOn(t, s, 0, d, api.ErrMuch)
		failsOn(t, s, 0, list(sym("quote"), d), api.ErrMuch)
		failsOn(t, s, 0, list(sym("zz"), d), api.ErrMuch)
	}
	odd := api.Datum{Kind: api.DNum, N: 4, Kids: make([]api.Datum, 1)}
	odd.Kids[0] = odd
	givesOn(t, s, 0, odd, "4")
	givesOn(t, s, 0, list(sym("quote"), list(odd)), "'(4)")
	s.Macros[3].Macro.Rules[0].Tmpl = loop
	fails(t, s, 0, "(id 1)", api.ErrMuch)
}

// Z1: a macro that brings parameters around itself, as many as it can, ends soon.
func TestZ1Wide(t *testing.T) {
	s := scope(t)
	params := ""
	for i := range 1000 {
		params += fmt.Sprint(" p", i)
	}
	s.Macros = append(s.Macros, def(t, "m", "wide", "(_ e)", "(lambda ("+params+") x p0 (wide e))"))
	s.Tops[0].Binds = append(s.Tops[0].Binds, api.Bind{Here: "wide", Lib: "m", Own: "wide"})
	fails(t, s, 0, "(wide f)", api.ErrSteps)
}

// spared is d with spare room behind each list, in which something stands.
func spared(d api.Datum) api.Datum {
	kids := make([]api.Datum, 0, len(d.Kids)+3)
	for _, k := range d.Kids {
		kids = append(kids, spared(k))
	}
	for i := range kids[:cap(kids)][len(kids):] {
		kids[:cap(kids)][len(kids)+i] = num(9)
	}
	d.Kids = kids
	return d
}

// roomy is l with spare room behind it, in which what stands.
func roomy[T any](l []T, what T) []T {
	out := append(make([]T, 0, len(l)+3), l...)
	for i := len(l); i < cap(out); i++ {
		out[:cap(out)][i] = what
	}
	return out
}

// given is a scope with spare room everywhere, and a form that uses much of it.
func given(t *testing.T) (api.Scope, api.Datum) {
	t.Helper()
	s := scope(t)
	for i, m := range s.Macros {
		for j, r := range m.Macro.Rules {
			m.Macro.Rules[j] = api.Rule{Pat: spared(r.Pat), Tmpl: spared(r.Tmpl)}
		}
		s.Macros[i].Macro.Rules = roomy(m.Macro.Rules, api.Rule{Pat: datum(t, "(_ ...)"), Tmpl: num(8)})
		s.Macros[i].Macro.Lits = roomy([]string{"=>"}, "e")
	}
	for i := range s.Tops {
		s.Tops[i].Binds = roomy(s.Tops[i].Binds, api.Bind{Here: "zz", Lib: "m", Own: "zz"})
	}
	s.Tops = roomy(s.Tops, top("o", "x=o.x"))
	s.Macros = roomy(s.Macros, def(t, "m", "f", "(_ e)", "1"))
	d := list(sym("define"), list(sym("f"), sym("a"), sym("b")), datum(t, "(swap a b)"), datum(t, "(let ((c 1) (d '(p (q) 2))) (set! x (or2 c (f car d) x)))"), list(sym("quote"), stamped("a", 3, 1)))
	return s, spared(d)
}

const givenWant = "(def m.f (fn2 (seq (call (fn1 (seq (set @2 @1) (set @1 @0))) @1) (call (fn2 (seq (set m.x (call (fn1 (seq (if @0 @0 (call (fn1 (seq (if @0 @0 (call (fn1 (seq (if @0 @0 #0))) m.x)))) (call m.f car @1))))) @1)))) 1 '(p (q) 2)) 'a)))"

// full is v with the spare room of each list in it, as a text.
func full(v reflect.Value) string {
	var out []string
	switch v.Kind() {
	case reflect.Slice:
		all := v.Slice(0, v.Cap())
		for i := range all.Len() {
			out = append(out, full(all.Index(i)))
		}
	case reflect.Struct:
		for i := range v.NumField() {
			out = append(out, full(v.Field(i)))
		}
	case reflect.String:
		return v.String()
	case reflect.Int, reflect.Int64:
		return string(rune('0' + v.Int()%100))
	}
	return "[" + strings.Join(out, " ") + "]"
}

// Z2: neither what is handed in nor its spare room is changed, or looked at.
func TestZ2OnlyRead(t *testing.T) {
	s, d := given(t)
	was := full(reflect.ValueOf(s)) + full(reflect.ValueOf(d))
	givesOn(t, s, 0, d, givenWant)
	fails(t, s, 0, "zz", api.ErrName)
	fails(t, s, 2, "x", api.ErrRange)
	fails(t, s, 0, "(id)", api.ErrNone)
	gives(t, s, 0, "(f 2)", "(call m.f 2)")
	givesOn(t, s, 0, stamped("x", 1, 1), "n.x")
	failsOn(t, s, 0, stamped("x", 1, 2), api.ErrName)
	if full(reflect.ValueOf(s))+full(reflect.ValueOf(d)) != was {
		t.Error("what was handed in was changed")
	}
}

// memory goes through all lists, their spare room too, and all texts of v, and tells where each stands.
func memory(v reflect.Value, tell func(at uintptr, what string)) {
	switch v.Kind() {
	case reflect.Slice:
		all := v.Slice(0, v.Cap())
		if all.Len() > 0 {
			tell(all.Index(0).UnsafeAddr(), "a list")
		}
		for i := range all.Len() {
			memory(all.Index(i), tell)
		}
	case reflect.Struct:
		for i := range v.NumField() {
			memory(v.Field(i), tell)
		}
	case reflect.String:
		if v.Len() > 0 {
			tell(uintptr(unsafe.Pointer(unsafe.StringData(v.String()))), v.String())
		}
	}
}

// owned is v with texts of their own.
func owned(v reflect.Value) {
	switch v.Kind() {
	case reflect.Slice:
		for i := range v.Len() {
			owned(v.Index(i))
		}
	case reflect.Struct:
		for i := range v.NumField() {
			owned(v.Field(i))
		}
	case reflect.String:
		v.SetString(strings.Clone(v.String()))
	}
}

// Z2: what is answered shares neither lists nor texts with what is handed in, and no two of its lists share memory.
func TestZ2New(t *testing.T) {
	var in struct {
		S api.Scope
		D api.Datum
	}
	in.S, in.D = given(t)
	owned(reflect.ValueOf(&in).Elem())
	given, seen := map[uintptr]bool{}, map[uintptr]bool{}
	memory(reflect.ValueOf(&in).Elem(), func(at uintptr, what string) { given[at] = true })
	c, err := expand.Expand(in.S, 0, in.D)
	if err != api.OK {
		t.Fatalf("Expand is %v", err)
	}
	memory(reflect.ValueOf(&c).Elem(), func(at uintptr, what string) {
		if given[at] {
			t.Errorf("%s was handed in", what)
		}
		if seen[at] && what == "a list" {
			t.Error("a list shares memory with another")
		}
		seen[at] = true
	})
}

// Z3: nil and a list without entries are the same.
func TestZ3Empty(t *testing.T) {
	s := scope(t)
	for _, none := range [][]api.Datum{nil, {}} {
		empty := api.Datum{Kind: api.DList, Kids: none}
		failsOn(t, s, 0, empty, api.ErrForm)
		failsOn(t, s, 0, list(sym("define"), empty, num(1)), api.ErrForm)
		failsOn(t, s, 0, list(list(sym("lambda"), empty, num(1))), api.OK)
		givesOn(t, s, 0, list(sym("lambda"), empty, num(1)), "(fn0 (seq 1))")
		givesOn(t, s, 0, list(sym("let"), empty, num(1)), "(call (fn0 (seq 1)))")
		givesOn(t, s, 0, list(sym("quote"), empty), "'()")
	}
	for _, tops := range [][]api.Top{nil, {}} {
		fails(t, api.Scope{Tops: tops}, 0, "1", api.ErrRange)
	}
	for _, binds := range [][]api.Bind{nil, {}} {
		fails(t, api.Scope{Tops: []api.Top{{Binds: binds}}, Macros: []api.Def{}}, 0, "x", api.ErrName)
	}
}
