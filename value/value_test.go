package value_test

import (
	"slices"
	"testing"

	"graftwood/api"
	"graftwood/expand"
	"graftwood/text"
	"graftwood/value"
)

// quoted is the value of a datum.
func quoted(t *testing.T, s string) value.Value {
	t.Helper()
	l, f := text.Read(s)
	if f.Err != api.OK || len(l) != 1 {
		t.Fatalf("%q: %v", s, f)
	}
	return value.Quoted(&l[0])
}

// G2: a list is pairs that end with nothing, the same ones however often they are asked for, and others the next time.
func TestG2Quoted(t *testing.T) {
	var o value.Output
	for _, s := range []string{"5", "-7", "#t", "#f", "ab", "()", "(a)", "(a (b 1) () #t)", "((((a))))"} {
		o.Primitive("out", []value.Value{quoted(t, s)})
		if got := o.Texts[len(o.Texts)-1]; got != s {
			t.Errorf("%s is put out as %s", s, got)
		}
	}
	l := quoted(t, "((a) b)")
	for _, own := range []value.Primitive{"car", "cdr"} {
		if o.Primitive(own, []value.Value{l}) != o.Primitive(own, []value.Value{l}) {
			t.Errorf("%s is another one each time", own)
		}
	}
	if l == quoted(t, "((a) b)") || quoted(t, "()") != (value.Nothing{}) {
		t.Error("pairs are the same, or nothing is not")
	}
}

// G2: values are the same just if they are equal, and of one kind.
func TestG2Same(t *testing.T) {
	all := []value.Value{value.Number(0), value.Number(1), value.Truth(false), value.Truth(true), value.Symbol(""), value.Symbol("car"), value.Primitive("car"), value.Nothing{}, quoted(t, "(a)"), &struct{ n int }{}}
	for i, a := range all {
		for j, b := range all {
			var o value.Output
			if got := o.Primitive("eq?", []value.Value{a, b}); got != value.Truth(i == j) {
				t.Errorf("%v and %v: %v", a, b, got)
			}
		}
	}
}

// G3: every primitive takes some arguments, and nothing else does.
func TestG3Takes(t *testing.T) {
	for _, own := range append(expand.Specials(), "", "if", "Car", "car ", "x", "outs") {
		if value.Args(own) != 0 {
			t.Errorf("%q takes %d", own, value.Args(own))
		}
	}
	for _, own := range expand.Prims() {
		takes := value.Args(own)
		if two := slices.Contains([]string{"*", "+", "-", "<", "=", "cons", "eq?"}, own); takes != 1 && !two || takes != 2 && two {
			t.Errorf("%q takes %d", own, takes)
		}
		for n := range 4 {
			var o value.Output
			how, _ := end(func() { o.Primitive(value.Primitive(own), numbers(1, n)) })
			if (how == api.RunArgs) != (n != takes) {
				t.Errorf("%q of %d ends with %d", own, n, how)
			}
		}
	}
}

func TestG3InRange(t *testing.T) {
	for n, want := range map[int64]bool{0: true, api.MaxInt: true, api.MaxInt + 1: false, -api.MaxInt: true, -api.MaxInt - 1: false, 1<<63 - 1: false, -1 << 63: false} {
		if value.InRange(n) != want {
			t.Errorf("%d: not %v", n, want)
		}
	}
}
