package expand_test

import (
	"fmt"
	"reflect"
	"strings"
	"testing"

	"graftwood/api"
	"graftwood/expand"
	"graftwood/text"
)

func num(n int64) api.Datum            { return api.Datum{Kind: api.DNum, N: n} }
func sym(s string) api.Datum           { return api.Datum{Kind: api.DSym, Name: s} }
func list(kids ...api.Datum) api.Datum { return api.Datum{Kind: api.DList, Kids: kids} }

// stamped is a symbol that a macro brought.
func stamped(name string, stamp, lib int) api.Datum {
	return api.Datum{Kind: api.DSym, Name: name, Stamp: stamp, Lib: lib}
}

// datum is the one that s has.
func datum(t *testing.T, s string) api.Datum {
	t.Helper()
	l, f := text.Read(s)
	if f.Err != api.OK || len(l) != 1 {
		t.Fatalf("%.200q is no datum: %v", s, f)
	}
	return l[0]
}

// with is the datum that s has, with each symbol of what in place of its name.
func with(t *testing.T, s string, what map[string]api.Datum) api.Datum {
	t.Helper()
	var walk func(api.Datum) api.Datum
	walk = func(d api.Datum) api.Datum {
		if in, ok := what[d.Name]; ok && d.Kind == api.DSym {
			return in
		}
		for i, k := range d.Kids {
			d.Kids[i] = walk(k)
		}
		return d
	}
	return walk(datum(t, s))
}

// def is a macro with a rule for each two texts: its pattern, and its template.
func def(t *testing.T, lib, own string, l ...string) api.Def {
	t.Helper()
	d := api.Def{Lib: lib, Own: own}
	for i := 0; i < len(l); i += 2 {
		d.Macro.Rules = append(d.Macro.Rules, api.Rule{Pat: datum(t, l[i]), Tmpl: datum(t, l[i+1])})
	}
	return d
}

// top has all of the base, and binds, each written here=lib.own.
func top(name, binds string) api.Top {
	out := api.Top{Name: name}
	for _, s := range strings.Fields("begin define define-syntax if lambda let quote set! * + - < = car cdr cons eq? not null? out pair?") {
		out.Binds = append(out.Binds, api.Bind{Here: s, Lib: "base", Own: s})
	}
	for _, s := range strings.Fields(binds) {
		here, there, _ := strings.Cut(s, "=")
		lib, own, _ := strings.Cut(there, ".")
		out.Binds = append(out.Binds, api.Bind{Here: here, Lib: lib, Own: own})
	}
	return out
}

// scope has library m, with variables x and f and with macros, and library n, that has y, calls some of m's things by other names, and has a variable swap of its own.
func scope(t *testing.T) api.Scope {
	t.Helper()
	macros := "swap=m.swap or2=m.or2 loop=m.loop id=m.id x-of=m.x-of"
	return api.Scope{
		Tops: []api.Top{
			top("m", "x=m.x f=m.f "+macros),
			top("n", "y=n.y x=n.x swap=n.swap mx=m.x f=m.f mswap=m.swap or=m.or2 loop=m.loop id=m.id x-of=m.x-of wenn=base.if plus=base.+ odd=base.odd"),
		},
		Macros: []api.Def{
			def(t, "m", "swap", "(_ p q)", "(let ((tmp p)) (set! p q) (set! q tmp))"),
			def(t, "m", "or2", "(_)", "#f", "(_ e r ...)", "(let ((t e)) (if t t (or2 r ...)))"),
			def(t, "m", "loop", "(_ e)", "(loop e)"),
			def(t, "m", "id", "(_ e)", "e"),
			def(t, "m", "x-of", "(_)", "x"),
			def(t, "m", "swap", "(_ p q)", "5"),
		},
	}
}

// shown is a core expression as a text; what its kind has not must be zero.
func shown(t *testing.T, c api.Core) string {
	t.Helper()
	kids := ""
	for _, k := range c.Kids {
		kids += " " + shown(t, k)
	}
	var has api.Core
	out := ""
	switch c.Kind {
	case api.CNum:
		has.N, out = c.N, fmt.Sprint(c.N)
	case api.CBool:
		has.N, out = c.N, fmt.Sprint("#", c.N)
	case api.CQuote:
		has.Quote, out = c.Quote, "'"+shownDatum(c.Quote)
	case api.CLocal:
		has.Index, out = c.Index, fmt.Sprint("@", c.Index)
	case api.CGlobal:
		has.Lib, has.Own, out = c.Lib, c.Own, c.Lib+"."+c.Own
	case api.CPrim:
		has.Own, out = c.Own, c.Own
	case api.CIf:
		has.Kids, out = c.Kids, "(if"+kids+")"
	case api.CLambda:
		has.Index, has.Kids, out = c.Index, c.Kids, fmt.Sprint("(fn", c.Index, kids, ")")
	case api.CCall:
		has.Kids, out = c.Kids, "(call"+kids+")"
	case api.CSetLocal:
		has.Index, has.Kids, out = c.Index, c.Kids, fmt.Sprint("(set @", c.Index, kids, ")")
	case api.CSetGlobal:
		has.Lib, has.Own, has.Kids, out = c.Lib, c.Own, c.Kids, "(set "+c.Lib+"."+c.Own+kids+")"
	case api.CSeq:
		has.Kids, out = c.Kids, "(seq"+kids+")"
	case api.CDefine:
		has.Lib, has.Own, has.Kids, out = c.Lib, c.Own, c.Kids, "(def "+c.Lib+"."+c.Own+kids+")"
	}
	has.Kind = c.Kind
	if len(c.Kids) != len(has.Kids) || !reflect.DeepEqual(bare(c), bare(has)) || !plain(c.Quote) {
		t.Errorf("%s has more than its kind has: %v", out, c)
	}
	return out
}

func bare(c api.Core) api.Core {
	c.Kids = nil
	return c
}

// plain tells whether d has no stamps, and nothing that its kind has not.
func plain(d api.Datum) bool {
	has := api.Datum{Kind: d.Kind}
	switch d.Kind {
	case api.DNum, api.DBool:
		has.N = d.N
	case api.DSym:
		has.Name = d.Name
	case api.DList:
		has.Kids = d.Kids
	}
	for _, k := range has.Kids {
		if !plain(k) {
			return false
		}
	}
	return reflect.DeepEqual(d, has)
}

func shownDatum(d api.Datum) string {
	own := ""
	switch d.Kind {
	case api.DNum:
		own = fmt.Sprint(d.N)
	case api.DBool:
		own = fmt.Sprint("#", d.N)
	case api.DSym:
		own = d.Name
	case api.DList:
		var l []string
		for _, k := range d.Kids {
			l = append(l, shownDatum(k))
		}
		return "(" + strings.Join(l, " ") + ")"
	default:
		own = fmt.Sprint("?", d.Kind)
	}
	if d.Stamp != 0 || d.Lib != 0 {
		own += fmt.Sprint("/", d.Stamp, "/", d.Lib)
	}
	return own
}

func brief(s string) string {
	if len(s) <= 400 {
		return s
	}
	return s[:200] + " .. " + s[len(s)-200:]
}

// gives: want comes of form, in library which.
func gives(t *testing.T, s api.Scope, which int, form, want string) {
	t.Helper()
	givesOn(t, s, which, datum(t, form), want)
}

func givesOn(t *testing.T, s api.Scope, which int, d api.Datum, want string) {
	t.Helper()
	c, err := expand.Expand(s, which, d)
	if err != api.OK {
		t.Errorf("%s in %d is wrong: %v", brief(shownDatum(d)), which, err)
		return
	}
	if got := shown(t, c); got != want {
		t.Errorf("%s in %d is %s, not %s", brief(shownDatum(d)), which, brief(got), brief(want))
	}
}

// fails: that is what is wrong with form, in library which, and nothing else is answered.
func fails(t *testing.T, s api.Scope, which int, form string, want api.Errno) {
	t.Helper()
	failsOn(t, s, which, datum(t, form), want)
}

func failsOn(t *testing.T, s api.Scope, which int, d api.Datum, want api.Errno) {
	t.Helper()
	c, err := expand.Expand(s, which, d)
	if err != want {
		t.Errorf("%s in %d is %v, not %v", brief(shownDatum(d)), which, err, want)
	}
	if want != api.OK && (len(c.Kids) > 0 || !reflect.DeepEqual(bare(c), api.Core{})) {
		t.Errorf("beside %v stands %v", err, c)
	}
}
