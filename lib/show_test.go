package lib_test

import (
	"slices"
	"strings"
	"testing"

	"graftwood/api"
	"graftwood/lib"
	"graftwood/text"
)

// shows: what s is parsed as is shown as want, and that is parsed as the same.
func shows(t *testing.T, s, want string) {
	t.Helper()
	l, err := lib.Parse(files, features, libs, datum(t, s))
	d := lib.Show(l)
	got, f := text.Print([]api.Datum{d})
	if err != api.OK || f.Err != api.OK || got != want+"\n" {
		t.Errorf("of %s is shown %s %v %v, not %s", brief(s), got, err, f, want)
	}
	again, err := lib.Parse(nil, nil, nil, d)
	if err != api.OK || !same(again, l) {
		t.Errorf("%s is parsed as %v %v, not as %v", got, again, err, l)
	}
}

func TestC4Library(t *testing.T) {
	shows(t, "(library (a))", "(library (a) (export) (import) (begin))")
	shows(t, "(library (a b c))", "(library (a b c) (export) (import) (begin))")
	shows(t, "(library (a) (begin 1) (export y x) (import (m n)) (begin 'b) (export z))", "(library (a) (export y x z) (import (m n)) (begin 1 (quote b)))")
	shows(t, "(library ("+long(60)+"))", "(library ("+long(60)+") (export) (import) (begin))")
}

func TestC4Program(t *testing.T) {
	shows(t, "(program)", "(program (import) (begin))")
	shows(t, "(program (begin 1) (import (base)) (begin (a) ()))", "(program (import (base)) (begin 1 (a) ()))")
}

func TestC4Exports(t *testing.T) {
	shows(t, "(library (a) (export x (rename y z) (rename x y) (rename w w)))", "(library (a) (export x (rename y z) (rename x y) w) (import) (begin))")
}

func TestC4Imports(t *testing.T) {
	for _, s := range []string{
		"(m)", "(m n)", "(only)", "(only b)", "(only (b))", "(only (b) c d c)", "(except (b))", "(except (b c) d e)",
		"(prefix (b) p)", "(rename (b))", "(rename (b) (c d) (e f) (c c))", "(rename rename)",
		"(rename (prefix (except (only (b c) d e) e) p-) (p-d f))",
		strings.Repeat("(only ", 11) + "(m)" + strings.Repeat(" x)", 11),
	} {
		shows(t, "(library (a) (import "+s+"))", "(library (a) (export) (import "+s+") (begin))")
		shows(t, "(program (import (m)) (import "+s+" (n)))", "(program (import (m) "+s+" (n)) (begin))")
	}
}

func TestC4Included(t *testing.T) {
	shows(t, "(program (include f) (cond-expand (slow (begin 1)) (else (include quoted))))", "(program (import) (begin (define a 1) (define b 2) (quote x) #t))")
}

// A body may have more nodes in all, and be nested deeper, than one datum that is parsed.
func TestC4Great(t *testing.T) {
	wide := "(" + strings.Repeat("1 ", api.MaxNodes-1) + ")"
	deep := strings.Repeat("(", api.MaxDeep) + strings.Repeat(")", api.MaxDeep)
	some := []api.File{{Name: "w", Text: wide}, {Name: "d", Text: deep}}
	l, err := lib.Parse(some, nil, nil, datum(t, "(program (include "+strings.Repeat("w ", api.MaxBody-1)+"d))"))
	if err != api.OK || len(l.Body) != api.MaxBody {
		t.Fatal(err)
	}
	want := list(sym("program"), list(sym("import")), list(append([]api.Datum{sym("begin")}, l.Body...)...))
	if got := lib.Show(l); !same(api.Lib{Body: []api.Datum{got}}, api.Lib{Body: []api.Datum{want}}) {
		t.Errorf("Show is %s", brief(got))
	}
}

// Of others nothing is promised but that nothing panics.
func TestC4Others(t *testing.T) {
	sets := []api.Set{{}, {Kind: -1}, {Kind: 6}, {Kind: 1 << 40}, of(""), of(" "), of("A  b")}
	for kind := api.SetOnly; kind <= api.SetRename; kind++ {
		sets = append(sets,
			api.Set{Kind: kind},
			api.Set{Kind: kind, Kids: []api.Set{of("m"), of("m")}},
			api.Set{Kind: kind, Kids: []api.Set{{}}},
			api.Set{Kind: kind, Names: words("a b"), As: words("c"), Kids: []api.Set{of("m")}},
			api.Set{Kind: kind, Names: words("a"), As: words("c d"), Kids: []api.Set{of("m")}})
	}
	for _, kind := range []int{-1, 0, 6, 1 << 40} {
		sets = append(sets, api.Set{Kind: kind, Kids: []api.Set{of("m")}}, only(api.Set{Kind: kind, Kids: []api.Set{of("m")}}, "x"))
	}
	own := api.Set{Kind: api.SetOnly, Kids: make([]api.Set, 1)}
	own.Kids[0] = own
	sets = append(sets, own)
	for _, s := range sets {
		lib.Show(api.Lib{Name: "a", Imports: []api.Set{s}})
		lib.Show(api.Lib{Imports: []api.Set{of("m"), s}})
	}
	cycle := list(make([]api.Datum, 2)...)
	cycle.Kids[0], cycle.Kids[1] = cycle, cycle
	for _, d := range []api.Datum{{}, {Kind: 9}, {Kind: api.DNum, N: 1 << 62}, {Kind: api.DBool, N: 2}, sym(""), cycle} {
		lib.Show(api.Lib{Name: "a", Body: []api.Datum{d}})
		lib.Show(api.Lib{Body: []api.Datum{list(), list(d)}})
	}
	for _, s := range []string{"", " ", "  a", "A\x00", strings.Repeat(" ", 1<<16)} {
		lib.Show(api.Lib{Name: s, Exports: []api.Pair{{Here: s}, {There: s}}})
	}
	lib.Show(api.Lib{Name: "a", Exports: make([]api.Pair, 1000), Imports: slices.Repeat(sets, 10), Body: make([]api.Datum, 1000)})
}
