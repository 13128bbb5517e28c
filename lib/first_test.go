package lib_test

import (
	"strings"
	"testing"

	"graftwood/api"
	"graftwood/lib"
)

func sym(s string) api.Datum           { return api.Datum{Kind: api.DSym, Name: s} }
func list(kids ...api.Datum) api.Datum { return api.Datum{Kind: api.DList, Kids: kids} }

// What Wrong says comes first, wherever in d it is.
func TestC3Wrong(t *testing.T) {
	for _, c := range []struct {
		d   api.Datum
		err api.Errno
	}{
		{api.Datum{}, api.ErrKind},
		{api.Datum{Kind: 5}, api.ErrKind},
		{api.Datum{Kind: api.DNum, N: api.MaxInt + 1}, api.ErrRange},
		{api.Datum{Kind: api.DBool, N: 2}, api.ErrRange},
		{sym("A"), api.ErrName},
		{sym(""), api.ErrName},
		{sym(strings.Repeat("x", api.MaxName+1)), api.ErrName},
		{api.Datum{Kind: api.DSym, Name: "x", Stamp: 1}, api.ErrFit},
		{api.Datum{Kind: api.DSym, Name: "x", Lib: 1}, api.ErrFit},
	} {
		failsOf(t, files, c.d, c.err)
		failsOf(t, files, list(sym("program"), list(sym("begin"), c.d)), c.err)
		failsOf(t, files, list(sym("oops"), list(), c.d), c.err)
		failsOf(t, files, list(sym("program"), list(sym("cond-expand"), list(sym("slow"), c.d))), c.err)
		failsOf(t, make([]api.File, api.MaxFiles+1), c.d, c.err)
	}
}

func TestC3WrongMuch(t *testing.T) {
	nested := func(n int) api.Datum {
		d := list()
		for range n - 1 {
			d = list(d)
		}
		return d
	}
	body := func(kids ...api.Datum) api.Datum {
		return list(sym("program"), list(append([]api.Datum{sym("begin")}, kids...)...))
	}
	d := nested(api.MaxDeep - 2)
	l, err := lib.Parse(nil, nil, nil, body(d))
	if err != api.OK || !same(l, api.Lib{Body: []api.Datum{d}}) {
		t.Errorf("Parse is %v %v", l, err)
	}
	failsOf(t, nil, body(list(d)), api.ErrMuch)
	wide := list(make([]api.Datum, 1995)...)
	for i := range wide.Kids {
		wide.Kids[i] = sym("x")
	}
	l, err = lib.Parse(nil, nil, nil, body(wide))
	if err != api.OK || !same(l, api.Lib{Body: []api.Datum{wide}}) {
		t.Errorf("Parse is %s %v", brief(l), err)
	}
	failsOf(t, nil, body(wide, sym("x")), api.ErrMuch)
}

func TestC3Files(t *testing.T) {
	many := make([]api.File, api.MaxFiles)
	many[api.MaxFiles-1] = api.File{Name: "last", Text: "1"}
	l, err := lib.Parse(many, nil, nil, datum(t, "(program (include last))"))
	if err != api.OK || len(l.Body) != 1 {
		t.Errorf("Parse is %v %v", l, err)
	}
	many = append(many, api.File{})
	for _, s := range []string{"(program)", "5", "(library (a) (include zz))", "(library (" + long(61) + "))"} {
		failsOf(t, many, datum(t, s), api.ErrMany)
	}
}

// A file that nobody includes, or a name that no symbol has, is no error.
func TestC3FilesUnread(t *testing.T) {
	odd := []api.File{{}, {Name: "A b", Text: "("}, {Name: "x", Text: ")"}, {Name: "x"}}
	l, err := lib.Parse(odd, []string{"", "A b"}, []string{"", "( "}, datum(t, "(program (begin 1))"))
	if err != api.OK || len(l.Body) != 1 {
		t.Errorf("Parse is %v %v", l, err)
	}
}

// Of two errors the left one is told.
func TestC3First(t *testing.T) {
	wrong := map[string]api.Errno{
		"(export 5)":                    api.ErrForm,
		"(export x x)":                  api.ErrFit,
		"(export " + many(201) + ")":    api.ErrMany,
		"(import (" + long(61) + "))":   api.ErrMuch,
		"(include zz)":                  api.ErrNone,
		"(include big)":                 api.ErrRange,
		"(include long)":                api.ErrName,
		"(include more)":                api.ErrMany,
		"5":                             api.ErrForm,
		"(cond-expand (else (oops)))":   api.ErrForm,
		"(cond-expand (fast (export)))": api.OK,
	}
	for a, first := range wrong {
		for b, second := range wrong {
			want := first
			if want == api.OK {
				want = second
			}
			if want == api.OK || len(a)+len(b) > 1500 {
				continue
			}
			failsIn(t, a+b, want)
			failsIn(t, "(begin 1) "+a+" (import (m))"+b, want)
			failsIn(t, "(cond-expand (slow "+b+") (fast "+a+b+"))"+b, want)
		}
	}
	fails(t, "(library ("+long(61)+") (oops))", api.ErrMuch)
	fails(t, "(library (a 5) (include zz))", api.ErrForm)
}

// A requirement is met ahead of the declarations behind it, and all of that ahead of the next clause.
func TestC3FirstInClauses(t *testing.T) {
	much := "(library (" + long(61) + "))"
	failsIn(t, "(cond-expand ("+much+" 5))", api.ErrMuch)
	failsIn(t, "(cond-expand (() (include zz)))", api.ErrForm)
	failsIn(t, "(cond-expand (slow 5) ("+much+"))", api.ErrMuch)
	failsIn(t, "(cond-expand 5 ("+much+"))", api.ErrForm)
	failsIn(t, "(cond-expand ("+much+") 5)", api.ErrMuch)
	failsIn(t, "(cond-expand ((and "+much+" 5)))", api.ErrMuch)
	failsIn(t, "(cond-expand ((or 5 "+much+")))", api.ErrForm)
	failsIn(t, "(cond-expand ((not "+much+" fast)))", api.ErrForm)
	failsIn(t, "(cond-expand (fast (include zz)) ("+much+"))", api.ErrNone)
}

// What a kind has not means nothing, and is not answered.
func TestC3OtherFields(t *testing.T) {
	bad := []api.Datum{{Kind: 9}}
	odd := func(s string) api.Datum { return api.Datum{Kind: api.DSym, Name: s, N: 3, Kids: bad} }
	d := api.Datum{Kind: api.DList, N: 4, Name: "A b", Stamp: 5, Lib: 6, Kids: []api.Datum{
		odd("library"),
		{Kind: api.DList, Name: "x", Kids: []api.Datum{odd("a"), odd("b")}},
		list(odd("export"), odd("x")),
		list(odd("import"), list(odd("prefix"), list(odd("m")), odd("p"))),
		list(odd("begin"),
			api.Datum{Kind: api.DNum, N: 7, Name: "A b", Stamp: 1, Lib: 2, Kids: bad},
			api.Datum{Kind: api.DBool, N: 1, Name: "A b", Stamp: 1, Lib: 2, Kids: bad},
			api.Datum{Kind: api.DList, N: 7, Name: "A b", Stamp: 1, Lib: 2, Kids: []api.Datum{odd("y")}}),
	}}
	l, err := lib.Parse(nil, nil, nil, d)
	want := api.Lib{Name: "a b", Exports: pairs("x=x"), Imports: []api.Set{prefix(of("m"), "p")}, Body: data(t, "7 #t (y)")}
	if err != api.OK || !same(l, want) {
		t.Errorf("Parse is %v %v, not %v", l, err, want)
	}
	failsOf(t, nil, api.Datum{Kind: api.DNum, Name: "program", Kids: data(t, "program")}, api.ErrForm)
	failsOf(t, nil, list(api.Datum{Kind: api.DBool, Name: "program"}), api.ErrForm)
}
