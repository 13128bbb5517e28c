package macro_test

import (
	"fmt"
	"reflect"
	"strings"
	"testing"

	"graftwood/api"
	"graftwood/macro"
	"graftwood/text"
)

// The stamp and the library of all uses that say nothing else.
const (
	stamp = 3
	lib   = 1
)

func num(n int64) api.Datum            { return api.Datum{Kind: api.DNum, N: n} }
func sym(s string) api.Datum           { return api.Datum{Kind: api.DSym, Name: s} }
func list(kids ...api.Datum) api.Datum { return api.Datum{Kind: api.DList, Kids: kids} }

// datum is the one that s has.
func datum(t *testing.T, s string) api.Datum {
	t.Helper()
	l, f := text.Read(s)
	if f.Err != api.OK || len(l) != 1 {
		t.Fatalf("%.200q is no datum: %v", s, f)
	}
	return l[0]
}

// stamped is the datum that s has, with each symbol that begins with ! as the macro's own.
func stamped(t *testing.T, s string) api.Datum {
	t.Helper()
	var walk func(api.Datum) api.Datum
	walk = func(d api.Datum) api.Datum {
		if own, is := strings.CutPrefix(d.Name, "!"); is {
			d.Name, d.Stamp, d.Lib = own, stamp, lib
		}
		for i, k := range d.Kids {
			d.Kids[i] = walk(k)
		}
		return d
	}
	return walk(datum(t, s))
}

// rules has a rule for each two texts: its pattern, and its template.
func rules(t *testing.T, l ...string) api.Macro {
	t.Helper()
	var m api.Macro
	for i := 0; i < len(l); i += 2 {
		m.Rules = append(m.Rules, api.Rule{Pat: datum(t, l[i]), Tmpl: datum(t, l[i+1])})
	}
	return m
}

func withLits(m api.Macro, lits string) api.Macro {
	m.Lits = strings.Fields(lits)
	return m
}

// nested is a list in so many others, less one, around inner.
func nested(deep int, inner ...api.Datum) api.Datum {
	d := list(inner...)
	for range deep - 1 {
		d = list(d)
	}
	return d
}

// ones is so many ones, as a text.
func ones(n int) string { return strings.Repeat("1 ", n) }

// plain has nil for each list without entries: they are the same.
func plain(d api.Datum) api.Datum {
	var kids []api.Datum
	for _, k := range d.Kids {
		kids = append(kids, plain(k))
	}
	d.Kids = kids
	return d
}

func same(a, b api.Datum) bool { return reflect.DeepEqual(plain(a), plain(b)) }

func brief(x any) string {
	s := fmt.Sprint(x)
	if len(s) <= 400 {
		return s
	}
	return s[:200] + " .. " + s[len(s)-200:]
}

func wrong(t *testing.T, m api.Macro, want api.Errno, at int) {
	t.Helper()
	if f := macro.Wrong(m); f.Err != want || f.At != at {
		t.Errorf("Wrong(%s) is %v, not {%v %v}", brief(m), f, want, at)
	}
}

// wrongRule: that is what is wrong with the rule, wherever it stands, and Use says so too, though another rule ahead fits.
func wrongRule(t *testing.T, pat, tmpl string, want api.Errno) {
	t.Helper()
	m := rules(t, pat, tmpl)
	wrong(t, m, want, 0)
	failsOn(t, m, datum(t, "(m)"), want)
	m = rules(t, "(m)", "ok", "(m a)", "b", pat, tmpl, "(... ...)", "c")
	wrong(t, m, want, 2)
	failsOn(t, m, datum(t, "(m)"), want)
}

func rightRule(t *testing.T, pat, tmpl string) {
	t.Helper()
	if f := macro.Wrong(rules(t, pat, tmpl)); f != (api.Fault{}) {
		t.Errorf("%s and %s are wrong: %v", pat, tmpl, f)
	}
}

// uses: want comes of form; in want, what begins with ! is the macro's own.
func uses(t *testing.T, m api.Macro, form, want string) {
	t.Helper()
	usesOn(t, m, datum(t, form), stamped(t, want))
}

func usesOn(t *testing.T, m api.Macro, form, want api.Datum) {
	t.Helper()
	d, err := macro.Use(m, form, stamp, lib)
	if err != api.OK || !same(d, want) {
		t.Errorf("Use(%s, %s) is %s %v, not %s", brief(m), brief(form), brief(d), err, brief(want))
	}
}

func fails(t *testing.T, m api.Macro, form string, want api.Errno) {
	t.Helper()
	failsOn(t, m, datum(t, form), want)
}

func failsOn(t *testing.T, m api.Macro, form api.Datum, want api.Errno) {
	t.Helper()
	d, err := macro.Use(m, form, stamp, lib)
	if err != want || !same(d, api.Datum{}) {
		t.Errorf("Use(%s, %s) is %s %v, not %v", brief(m), brief(form), brief(d), err, want)
	}
}

// fits: that pattern fits that form.
func fits(t *testing.T, lits, pat, form string) {
	t.Helper()
	uses(t, withLits(rules(t, pat, "ok"), lits), form, "!ok")
}

func fitsNot(t *testing.T, lits, pat, form string) {
	t.Helper()
	fails(t, withLits(rules(t, pat, "ok"), lits), form, api.ErrNone)
}
