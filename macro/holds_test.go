package macro_test

import (
	"reflect"
	"strings"
	"testing"
	"unsafe"

	"graftwood/api"
	"graftwood/macro"
)

// Z1: what is among its own kids is too deep, wherever it is handed in; where it is no list, it has none.
func TestZ1OwnKid(t *testing.T) {
	loop := list(make([]api.Datum, 2)...)
	loop.Kids[0], loop.Kids[1] = sym("m"), loop
	wide := list(make([]api.Datum, 50)...)
	for i := range wide.Kids {
		wide.Kids[i] = wide
	}
	for _, d := range []api.Datum{loop, wide} {
		failsOn(t, rules(t, "(m a)", "a"), d, api.ErrMuch)
		failsOn(t, rules(t, "(m a)", "a"), list(sym("m"), d), api.ErrMuch)
		wrong(t, api.Macro{Rules: []api.Rule{{Pat: d, Tmpl: sym("x")}}}, api.ErrMuch, 0)
		wrong(t, api.Macro{Rules: []api.Rule{{Pat: datum(t, "(m a)"), Tmpl: d}}}, api.ErrMuch, 0)
	}
	odd := api.Datum{Kind: api.DNum, N: 4, Kids: make([]api.Datum, 1)}
	odd.Kids[0] = odd
	usesOn(t, rules(t, "(m a)", "(a)"), list(sym("m"), odd), datum(t, "(4)"))
	usesOn(t, api.Macro{Rules: []api.Rule{{Pat: list(sym("m"), odd), Tmpl: odd}}}, datum(t, "(m 4)"), num(4))
}

// spared is d with spare room behind each list, in which something stands.
func spared(d api.Datum, what string) api.Datum {
	kids := make([]api.Datum, 0, len(d.Kids)+3)
	for _, k := range d.Kids {
		kids = append(kids, spared(k, what))
	}
	for i := range kids[len(kids):cap(kids)] {
		kids[len(kids):cap(kids)][i] = sym(what)
	}
	d.Kids = kids
	return d
}

// full is d with the spare room of each list in it.
func full(d api.Datum) api.Datum {
	var kids []api.Datum
	for _, k := range d.Kids[:cap(d.Kids)] {
		kids = append(kids, full(k))
	}
	d.Kids = kids
	return d
}

// given is a macro with spare room everywhere, and a form that it fits.
func given(t *testing.T) (api.Macro, api.Datum) {
	t.Helper()
	m := rules(t, "(m 1)", "x", "(m (a b) ... )", "(a ... (x b) ... ((y a b)) ...)", "(m a b => c ...)", "(a (b c c) ... d)")
	m.Lits = append(make([]string, 0, 4), "=>", "else")
	m.Lits[:4][2], m.Lits[:4][3] = "...", "A"
	all := append(make([]api.Rule, 0, 5), m.Rules...)
	for i := range all[:5] {
		all[:5][i] = api.Rule{Pat: spared(all[:5][i].Pat, "..."), Tmpl: spared(all[:5][i].Tmpl, "...")}
	}
	m.Rules = all
	return m, spared(datum(t, "(m (1 (x)) (y z) => (q r) (s t))"), "spare")
}

// Z2: neither what is handed in nor its spare room is changed, or looked at.
func TestZ2OnlyRead(t *testing.T) {
	m, form := given(t)
	m2, form2 := given(t)
	wrong(t, m, api.OK, 0)
	uses(t, m, "(m (1 2) (3 4))", "(1 3 (!x 2) (!x 4) ((!y 1 2)) ((!y 3 4)))")
	usesOn(t, m, form, stamped(t, "((1 (x)) ((y z) (q r) (q r)) ((y z) (s t) (s t)) !d)"))
	if !reflect.DeepEqual(full(form), full(form2)) {
		t.Error("the form was changed")
	}
	if !reflect.DeepEqual(m.Lits[:4], m2.Lits[:4]) {
		t.Error("the literals were changed")
	}
	for i, r := range m.Rules[:cap(m.Rules)] {
		was := m2.Rules[:cap(m2.Rules)][i]
		if !reflect.DeepEqual(full(r.Pat), full(was.Pat)) || !reflect.DeepEqual(full(r.Tmpl), full(was.Tmpl)) {
			t.Errorf("rule %d was changed", i)
		}
	}
}

// own has names that are texts of their own.
func own(d api.Datum, names map[*byte]int, lists map[*api.Datum]int) api.Datum {
	if d.Name != "" {
		d.Name = strings.Clone(d.Name)
		names[unsafe.StringData(d.Name)]++
	}
	for i := range d.Kids {
		d.Kids[i] = own(d.Kids[i], names, lists)
	}
	for i := range d.Kids[:cap(d.Kids)] {
		lists[&d.Kids[:cap(d.Kids)][i]]++
	}
	return d
}

// Z2: what is answered shares neither lists nor texts with what is handed in, and no two of its lists share memory.
func TestZ2New(t *testing.T) {
	names, lists := map[*byte]int{}, map[*api.Datum]int{}
	m, form := given(t)
	for i, r := range m.Rules {
		m.Rules[i] = api.Rule{Pat: own(r.Pat, names, lists), Tmpl: own(r.Tmpl, names, lists)}
	}
	form = own(form, names, lists)
	d, err := macro.Use(m, form, stamp, lib)
	if err != api.OK {
		t.Fatalf("Use is %v", err)
	}
	var walk func(api.Datum)
	walk = func(d api.Datum) {
		if d.Name != "" && names[unsafe.StringData(d.Name)] > 0 {
			t.Errorf("the name %s is one that was handed in", d.Name)
		}
		for i := range d.Kids[:cap(d.Kids)] {
			p := &d.Kids[:cap(d.Kids)][i]
			lists[p]++
			if lists[p] > 1 {
				t.Error("a list shares memory with another")
			}
		}
		for _, k := range d.Kids {
			walk(k)
		}
	}
	walk(d)
}

// Z3: nil and a list without entries are the same.
func TestZ3Empty(t *testing.T) {
	for _, none := range [][]api.Datum{nil, {}} {
		empty := api.Datum{Kind: api.DList, Kids: none}
		m := api.Macro{Lits: []string{}, Rules: []api.Rule{{Pat: list(sym("m"), empty, sym("a"), sym("...")), Tmpl: list(empty, list(sym("a"), sym("...")))}}}
		for _, other := range [][]api.Datum{nil, {}} {
			d := api.Datum{Kind: api.DList, Kids: other}
			usesOn(t, m, list(sym("m"), d, d), list(list(), list(list())))
			failsOn(t, m, d, api.ErrForm)
		}
		wrong(t, api.Macro{Rules: []api.Rule{{Pat: empty, Tmpl: empty}}}, api.ErrForm, 0)
	}
	fails(t, api.Macro{Lits: []string{}, Rules: []api.Rule{}}, "(m)", api.ErrNone)
}
