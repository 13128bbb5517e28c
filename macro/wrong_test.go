package macro_test

import (
	"strings"
	"testing"

	"graftwood/api"
	"graftwood/macro"
)

func TestE1Right(t *testing.T) {
	wrong(t, api.Macro{}, api.OK, 0)
	for _, l := range [][2]string{
		{"(m)", "x"}, {"(_)", "()"}, {"(m)", "m"}, {"(m m)", "m"}, {"(m a b)", "(b a tmp)"},
		{"(m a ...)", "(a ...)"}, {"(m a b ...)", "(a (b a) ... c)"}, {"(m (a ...) (b ...))", "((a b) ...)"},
		{"(m (a b) ...)", "((a ...) (b ...))"}, {"(m _ _)", "_"}, {"(m _ ...)", "x"}, {"(m 1 ...)", "x"},
		{"(m () ...)", "x"}, {"(m (a 1 _) ... )", "((1 a) ...)"}, {"(m ((a ...) b) c ...)", "(a ... (b c) ...)"},
		{"(m (((a)) ...))", "((((a)) ...))"}, {"(m a ...)", "(a ... a ... 1 a ...)"}, {"(m a ...)", "((x (y a)) ...)"},
		{"(m a ...)", "x"}, {"(m a)", "(a a (a))"}, {"(m (a ...) ((b ...)))", "(((a ...)) b ...)"},
	} {
		rightRule(t, l[0], l[1])
	}
}

// Dots stand last in a list, behind another thing.
func TestE1PatternDots(t *testing.T) {
	for _, pat := range []string{
		"(m ...)", "(m a ... b)", "(m a ... ...)", "(m ... ...)", "(m ... a)", "(m (...))", "(m (... a))", "(m (a ... b))",
		"(m (a ...) ... b)", "(m a (b ... c ...))", "(m a ... b ...)", "(m ((...)))", "(m a (...) ...)",
	} {
		wrongRule(t, pat, "x", api.ErrForm)
	}
	rightRule(t, "(m (a ...) (b (c ...)))", "x")
}

// What stands for many has no dots in it, however deep.
func TestE1ManyInMany(t *testing.T) {
	for _, pat := range []string{"(m (a ...) ...)", "(m (b (a ...)) ...)", "(m ((((a ...)))) ...)", "(m ((1 ...) ...))", "(m (_ ...) ...)", "(m ((a) ...) ...)"} {
		wrongRule(t, pat, "x", api.ErrForm)
	}
}

func TestE1Twice(t *testing.T) {
	for _, pat := range []string{"(m a a)", "(m a (a))", "(m (a) (b a))", "(m a b c b)", "(m a a ...)", "(m (a a) ...)", "(m (a ...) a)", "(m a (b a) ...)"} {
		wrongRule(t, pat, "x", api.ErrName)
	}
	rightRule(t, "(m _ _ (_) _ ...)", "x")
	rightRule(t, "(m m)", "m")
	if f := macro.Wrong(withLits(rules(t, "(a a => b => (a))", "(a b)"), "=> a")); f != (api.Fault{}) {
		t.Errorf("literals that stand twice: %v", f)
	}
}

func TestE1Template(t *testing.T) {
	for _, l := range [][2]string{
		{"(m a ...)", "a"}, {"(m a ...)", "(a)"}, {"(m a ...)", "(a ... a)"}, {"(m (a b) ...)", "((a ...) b)"}, {"(m a ...)", "(x (a))"},
		{"(m a)", "..."}, {"(m a)", "(...)"}, {"(m a)", "(... a)"}, {"(m a ...)", "(... a ...)"}, {"(m a ...)", "(a ... ...)"}, {"(m a ...)", "(... ...)"},
		{"(m a)", "(a ...)"}, {"(m a)", "(x ...)"}, {"(m a ...)", "(x ...)"}, {"(m a ...)", "(1 ... a ...)"}, {"(m a b ...)", "(a ... b ...)"},
		{"(m a ...)", "(() ...)"}, {"(m a b ...)", "((x a) ...)"}, {"(m _ ...)", "(_ ...)"}, {"(m a)", "((x (y)) ...)"},
		{"(m a ...)", "((a ...) ...)"}, {"(m a ...)", "((b a ...) ...)"}, {"(m a ...)", "((a (a ...)) ...)"}, {"(m (a b) ...)", "((a (b ...)) ...)"},
		{"(m a ...)", "((a (x ...)) ...)"}, {"(m a ...)", "((a (...)) ...)"}, {"(m a ...)", "(((...) a) ...)"},
	} {
		wrongRule(t, l[0], l[1], api.ErrForm)
	}
}

// A literal is no variable: neither in a pattern nor in a template.
func TestE1Literals(t *testing.T) {
	wrong(t, withLits(rules(t, "(m a => b)", "(=> a b)", "(m => ...)", "=>"), "=>"), api.OK, 0)
	wrong(t, withLits(rules(t, "(m => ...)", "(=> ...)"), "=>"), api.ErrForm, 0)
	wrong(t, rules(t, "(m => ...)", "(=> ...)"), api.OK, 0)
}

func TestE2Many(t *testing.T) {
	var m api.Macro
	for range api.MaxRules {
		m.Rules = append(m.Rules, rules(t, "(m)", "x").Rules...)
		m.Lits = append(m.Lits, "a")
	}
	wrong(t, m, api.OK, 0)
	more := m
	more.Lits = append(m.Lits[:len(m.Lits):len(m.Lits)], "A")
	wrong(t, more, api.ErrMany, 0)
	more = m
	more.Rules = append(m.Rules[:len(m.Rules):len(m.Rules)], api.Rule{})
	more.Lits = []string{"..."}
	wrong(t, more, api.ErrMany, 0)
	failsOn(t, more, api.Datum{}, api.ErrMany)
	m.Rules[api.MaxRules-1] = api.Rule{}
	wrong(t, m, api.ErrKind, api.MaxRules-1)
}

func TestE2Lits(t *testing.T) {
	for _, s := range []string{"...", "_", "", "A", "7", "-1", "a b", "#t", strings.Repeat("a", api.MaxName+1)} {
		m := api.Macro{Lits: []string{"ok", s}, Rules: []api.Rule{{}}}
		wrong(t, m, api.ErrName, 0)
		failsOn(t, m, api.Datum{}, api.ErrName)
	}
	for _, s := range []string{"..", "....", "__", "_.", "m", strings.Repeat("a", api.MaxName)} {
		m := rules(t, "(m)", "x")
		m.Lits = []string{s, s}
		wrong(t, m, api.OK, 0)
	}
}

// Pat and Tmpl are held together against what data must be.
func TestE2Data(t *testing.T) {
	pat, tmpl := datum(t, "(m a)"), datum(t, "a")
	put := func(p, q api.Datum, want api.Errno) {
		t.Helper()
		m := rules(t, "(m)", "x", "(m a)", "(a)")
		m.Rules = append(m.Rules, api.Rule{Pat: p, Tmpl: q}, api.Rule{})
		if want == api.OK {
			wrong(t, m, api.ErrKind, 3)
			return
		}
		wrong(t, m, want, 2)
	}
	odd := map[api.Errno]api.Datum{
		api.ErrKind:  {Kind: 5},
		api.ErrRange: {Kind: api.DBool, N: 2},
		api.ErrName:  sym("A"),
		api.ErrFit:   {Kind: api.DSym, Name: "a", Stamp: 1},
	}
	for err, d := range odd {
		put(d, tmpl, err)
		put(list(sym("m"), d), tmpl, err)
		put(pat, d, err)
		put(pat, list(list(d)), err)
	}
	put(datum(t, "7"), sym("A"), api.ErrName)
	put(datum(t, "(m a a)"), num(api.MaxInt+1), api.ErrRange)
	put(pat, nested(api.MaxDeep), api.OK)
	put(pat, nested(api.MaxDeep+1), api.ErrMuch)
	put(list(sym("m"), nested(api.MaxDeep-1)), tmpl, api.OK)
	put(list(sym("m"), nested(api.MaxDeep)), tmpl, api.ErrMuch)
	put(datum(t, "(m "+ones(api.MaxNodes/2-2)+")"), datum(t, "("+ones(api.MaxNodes/2-1)+")"), api.OK)
	put(datum(t, "(m "+ones(api.MaxNodes/2-2)+")"), datum(t, "("+ones(api.MaxNodes/2)+")"), api.ErrMuch)
}

func TestE2Begin(t *testing.T) {
	for _, pat := range []string{"x", "7", "#t", "()", "(5)", "(#t a a)", "((m) a)", "(())", "(... a)", "(... a a)", "..."} {
		wrongRule(t, pat, "x", api.ErrForm)
	}
	for _, pat := range []string{"(_)", "(m)", "(..)"} {
		rightRule(t, pat, "x")
	}
	m := withLits(rules(t, "(=> a)", "a"), "=>")
	wrong(t, m, api.OK, 0)
	d := datum(t, "(m a)")
	d.Kind, d.Name = api.DSym, "m"
	wrong(t, api.Macro{Rules: []api.Rule{{Pat: d, Tmpl: sym("x")}}}, api.ErrForm, 0)
}

// Whichever is met first, from the left, each thing ahead of what is in it; the template behind the pattern.
func TestE2First(t *testing.T) {
	for _, l := range []struct {
		pat, tmpl string
		want      api.Errno
	}{
		{"(m a a ...)", "...", api.ErrName},
		{"(m a a (...))", "x", api.ErrName},
		{"(m a (...) a)", "x", api.ErrForm},
		{"(m ... a a)", "x", api.ErrForm},
		{"(m a ... a)", "x", api.ErrForm},
		{"(m a (a) ... b)", "x", api.ErrName},
		{"(m a a ... b)", "x", api.ErrName},
		{"(m a ((a) ...) ...)", "x", api.ErrForm},
		{"(m a (a ...) ...)", "x", api.ErrForm},
		{"(m a (a (b ...)) ...)", "x", api.ErrName},
		{"(m a (b ... a) ...)", "x", api.ErrForm},
		{"(m a (a b ...) ...)", "x", api.ErrName},
		{"(m (b b ...) ...)", "x", api.ErrForm},
		{"(m a b)", "(a ...)", api.ErrForm},
	} {
		wrongRule(t, l.pat, l.tmpl, l.want)
	}
	wrong(t, rules(t, "(m a)", "(a ...)", "(m a a)", "x"), api.ErrForm, 0)
	wrong(t, rules(t, "(m a a)", "x", "(m a)", "(a ...)"), api.ErrName, 0)
}

// Each rule has variables of its own.
func TestE2EachRule(t *testing.T) {
	wrong(t, rules(t, "(m a ...)", "(a ...)", "(m (a) b)", "(a b)", "(m b ...)", "(a b ...)"), api.OK, 0)
	wrong(t, rules(t, "(m a ...)", "(a ...)", "(m b)", "(a ...)"), api.ErrForm, 1)
}
