package model_test

import (
	"reflect"
	"slices"
	"strings"
	"sync"
	"testing"
	"unsafe"

	"graftwood/api"
	"graftwood/model"
)

// Z1: what is among its own kids is too deep, or too much.
func TestZ1OwnKid(t *testing.T) {
	loop := seq(num(1))
	loop.Kids[0] = loop
	many := call(times(50, num(1))...)
	for i := range many.Kids {
		many.Kids[i] = many
	}
	for _, c := range []api.Core{loop, many} {
		wrong(t, alone(num(1), c), api.ErrMuch, 0)
		wrong(t, alone(lambda(1, c)), api.ErrMuch, 0)
	}
	d := list(sym("a"), sym("b"))
	d.Kids[1] = d
	wrong(t, alone(quote(d)), api.ErrMuch, 0)
	// What is no list has nothing in it.
	odd := sym("a")
	odd.Kids = []api.Datum{d}
	wrong(t, alone(quote(odd)), api.OK, 0)
	ends(t, alone(out(quote(odd))), 10, api.RunDone, "a")
}

// Z1: as many calls as there may be go on, each within an expression that is nested as deep as there may be.
func TestZ1Deep(t *testing.T) {
	again := call(global("f"))
	for range (api.MaxNest - 3) / 2 {
		again = call(prim("not"), seq(again))
	}
	l := alone(define("f", lambda(0, again)), call(global("f")))
	wrong(t, l, api.OK, 0)
	ends(t, l, api.MaxSteps, api.RunMuch)
	ends(t, l, 50000, api.RunSteps)
}

// Z1: a run that comes to long lists with nearly each step, and keeps them all, ends: what it does not look at takes no room.
func TestZ1Quotes(t *testing.T) {
	long := quote(list(slices.Repeat([]api.Datum{sym("a")}, api.MaxNodes-1)...))
	keep := setGlobal("x", call(prim("cons"), long, global("x")))
	again := call(global("f"), call(prim("-"), local(0), num(1)))
	body := seq(append(times(500, keep), choose(call(prim("<"), local(0), num(1)), num(1), seq(again, again)))...)
	ends(t, alone(define("x", num(1)), define("f", lambda(1, body)), call(global("f"), num(190))), api.MaxSteps, api.RunSteps)
}

// Z1: so do ones that take as many parameters as there may be, and ones that look for parameters far away.
func TestZ1Parameters(t *testing.T) {
	args := append([]api.Core{lambda(api.MaxNodes, local(api.MaxNodes-1))}, times(api.MaxNodes, num(7))...)
	ends(t, alone(out(call(args...))), api.MaxSteps, api.RunDone, "7")
	inner := seq(times(2000, local(146))...)
	for range 145 {
		inner = call(lambda(1, inner), num(1))
	}
	inner = lambda(1, inner)
	again := seq(times(500, call(global("f"), num(2)))...)
	ends(t, alone(define("f", call(lambda(1, inner), num(5))), again), api.MaxSteps, api.RunSteps)
}

// Z1: a run of many steps ends.
func TestZ1Steps(t *testing.T) {
	stops(t, "(define (f a) (if (= a 0) 1 (+ (f (- a 1)) (f (- a 1))))) (out (f 14)) (f 100)", api.RunSteps, "16384")
}

// given is parts with spare room everywhere, in which something stands.
func given(t *testing.T) []api.Part {
	t.Helper()
	l := cores(t, "(define x '(a (b 1) #t)) (define (f a b) (if (= a 0) (out (cons b x)) (begin (set! b (cons a b)) (f (- a 1) b)))) (f 3 'q) (out 'sym) (out (car (cdr x))) (out f)")
	for i, c := range l {
		l[i] = sparedCore(c)
	}
	return roomy([]api.Part{{Name: "m", Body: roomy(l, out(num(9)))}, {Name: "n"}}, part(api.Core{}))
}

var givenWant = []string{"((1 2 3 . q) a (b 1) #t)", "sym", "(b 1)", "#p"}

// roomy is l with spare room behind it, in which what stands.
func roomy[T any](l []T, what T) []T {
	out := append(make([]T, 0, len(l)+3), l...)
	for i := len(l); i < cap(out); i++ {
		out[:cap(out)][i] = what
	}
	return out
}

func sparedCore(c api.Core) api.Core {
	for i, k := range c.Kids {
		c.Kids[i] = sparedCore(k)
	}
	c.Kids = roomy(c.Kids, num(8))
	c.Quote = sparedDatum(c.Quote)
	c.Lib, c.Own = strings.Clone(c.Lib), strings.Clone(c.Own)
	return c
}

func sparedDatum(d api.Datum) api.Datum {
	for i, k := range d.Kids {
		d.Kids[i] = sparedDatum(k)
	}
	d.Kids = roomy(d.Kids, sym("zz"))
	d.Name = strings.Clone(d.Name)
	return d
}

// full is v with the spare room of each list in it, as a text; own tells where each text in it stands.
func full(v reflect.Value, own func(string)) string {
	var out []string
	switch v.Kind() {
	case reflect.Slice:
		all := v.Slice(0, v.Cap())
		for i := range all.Len() {
			out = append(out, full(all.Index(i), own))
		}
	case reflect.Struct:
		for i := range v.NumField() {
			out = append(out, full(v.Field(i), own))
		}
	case reflect.String:
		own(v.String())
		return v.String()
	case reflect.Int, reflect.Int64:
		return string(rune('0' + v.Int()%100))
	}
	return "[" + strings.Join(out, " ") + "]"
}

// Z2: neither what is handed in nor its spare room is changed, or looked at; what is answered is the caller's own.
func TestZ2OnlyRead(t *testing.T) {
	l := given(t)
	handed := map[*byte]bool{}
	was := full(reflect.ValueOf(l), func(s string) { handed[unsafe.StringData(s)] = len(s) > 0 })
	ends(t, l, api.MaxSteps, api.RunDone, givenWant...)
	for n := range 60 {
		model.Run(l, n)
	}
	res, _ := model.Run(l, api.MaxSteps)
	if full(reflect.ValueOf(l), func(string) {}) != was {
		t.Error("what was handed in was changed")
	}
	for _, s := range res.Out {
		if handed[unsafe.StringData(s)] {
			t.Errorf("%q was handed in", s)
		}
	}
	// What is put out stays, when the caller changes what was handed in, and another answer.
	other, _ := model.Run(l, api.MaxSteps)
	for i := range other.Out {
		other.Out[i] = ""
	}
	for i := range l[0].Body {
		l[0].Body[i] = api.Core{}
	}
	if !slices.Equal(res.Out, givenWant) {
		t.Errorf("what was put out is changed: %q", res.Out)
	}
}

// Z1, Z2: nothing is kept, so that runs do not touch each other.
func TestZ2AtOnce(t *testing.T) {
	l := given(t)
	var all sync.WaitGroup
	got := make([]api.Result, 8)
	for i := range got {
		all.Go(func() { got[i], _ = model.Run(l, 100000) })
	}
	all.Wait()
	for _, r := range got {
		if r.How != api.RunDone || !slices.Equal(r.Out, givenWant) {
			t.Errorf("one of several runs: %v", r)
		}
	}
}

// Z3: nil and a list without entries are the same.
func TestZ3Empty(t *testing.T) {
	for _, parts := range [][]api.Part{nil, {}} {
		ends(t, parts, 0, api.RunDone)
	}
	for _, body := range [][]api.Core{nil, {}} {
		ends(t, []api.Part{{Body: body}}, 0, api.RunDone)
		wrongCore(t, seq(body...), api.ErrMany)
		wrongCore(t, call(body...), api.ErrMany)
		c := num(1)
		c.Kids = body
		right(t, c)
	}
	for _, none := range [][]api.Datum{nil, {}} {
		ends(t, alone(out(quote(list(none...))), out(call(prim("null?"), quote(list(none...))))), 20, api.RunDone, "()", "#t")
	}
}
