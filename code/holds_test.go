package code_test

import (
	"reflect"
	"slices"
	"strings"
	"sync"
	"testing"
	"unsafe"

	"graftwood/api"
	"graftwood/code"
)

// Z1: what is among its own kids is too deep, or too much.
func TestZ1OwnKid(t *testing.T) {
	loop := seq(num(1))
	loop.Kids[0] = loop
	many := call(times(50, num(1))...)
	for i := range many.Kids {
		many.Kids[i] = many
	}
	procedure := lambda(0, num(1))
	procedure.Kids[0] = procedure
	for _, c := range []api.Core{loop, many, procedure} {
		fails(t, part(num(1), c), api.ErrMuch)
	}
	d := list(sym("a"), sym("b"))
	d.Kids[1] = d
	fails(t, part(quote(d)), api.ErrMuch)
	// What is no list has nothing in it.
	odd := sym("a")
	odd.Kids = []api.Datum{d}
	gives(t, quote(odd), "'a", "")
}

// Z1: as much as there may be ends, and so does what is too much only in the end: nothing long is copied for it.
func TestZ1Long(t *testing.T) {
	long := quote(list(slices.Repeat([]api.Datum{sym("a")}, api.MaxNodes-1)...))
	quotes := lambda(0, seq(times(2900, long)...))
	body := append(times(20, quotes), call(times(api.MaxProtos, lambda(0, num(1)))...))
	fails(t, part(body...), api.ErrMuch)
	deep := choose(num(1), num(2), num(3))
	for range api.MaxNest - 2 {
		deep = choose(num(1), deep, num(3))
	}
	if u, err := code.Compile(part(times(4, deep)...)); err != api.OK || len(u.Protos[0].Code) != 4*(299*4+1+1)+1 {
		t.Errorf("%d procedures, %v", len(u.Protos), err)
	}
	fails(t, part(times(api.MaxBody, deep)...), api.ErrMuch)
}

// given is a part with spare room everywhere, in which something stands, and all of its texts in one.
func given(t *testing.T) api.Part {
	t.Helper()
	l := cores(t, "(define x '(a (b 1) #t)) (define (f a b) (if (= a 0) (out (cons b x)) (begin (set! b (cons a b)) (f (- a 1) b)))) (f 3 'q) (set! x (lambda (c) (lambda () '())))")
	for i, c := range l {
		l[i] = spared(c)
	}
	return api.Part{Name: strings.Clone("m"), Body: roomy(l, num(9))}
}

const givenWant = "0: '(a,(b,1),#1) def:m.x pop fn1 def:m.f pop m.f 3 'q call2 pop fn2 set:m.x pop ret" +
	" | 2: = @1 0 call2 unless12 out cons @0 m.x call2 call1 to25 cons @1 @0 call2 set@0 pop m.f - @1 1 call2 @0 call2 ret" +
	" | 1: fn3 ret | 0: '() ret"

// roomy is l with spare room behind it, in which what stands.
func roomy[T any](l []T, what T) []T {
	out := append(make([]T, 0, len(l)+3), l...)
	for i := len(l); i < cap(out); i++ {
		out[:cap(out)][i] = what
	}
	return out
}

func spared(c api.Core) api.Core {
	for i, k := range c.Kids {
		c.Kids[i] = spared(k)
	}
	c.Kids = roomy(c.Kids, num(8))
	c.Quote = sparedDatum(c.Quote)
	c.Lib, c.Own = strings.Clone(c.Lib), strings.Clone(c.Own)
	return c
}

func sparedDatum(d api.Datum) api.Datum {
	for i, k := range d.Kids {
		d.Kids[i] = sparedDatum(k)
	}
	d.Kids = roomy(d.Kids, sym("zz"))
	d.Name = strings.Clone(d.Name)
	return d
}

// room is v with the spare room of each list in it, as a text; met is told where each list and text in it begins.
func room(v reflect.Value, met func(at unsafe.Pointer)) string {
	var out []string
	switch v.Kind() {
	case reflect.Slice:
		if v.Cap() > 0 {
			met(v.UnsafePointer())
		}
		all := v.Slice(0, v.Cap())
		for i := range all.Len() {
			out = append(out, room(all.Index(i), met))
		}
	case reflect.Struct:
		for i := range v.NumField() {
			out = append(out, room(v.Field(i), met))
		}
	case reflect.String:
		if s := v.String(); s != "" {
			met(unsafe.Pointer(unsafe.StringData(s)))
		}
		return v.String()
	case reflect.Int, reflect.Int64:
		return string(rune('0' + v.Int()%100))
	}
	return "[" + strings.Join(out, " ") + "]"
}

// Z2: neither what is handed in nor its spare room is changed, or looked at; what is answered is the caller's own.
func TestZ2OnlyRead(t *testing.T) {
	p := given(t)
	handed := map[unsafe.Pointer]bool{}
	was := room(reflect.ValueOf(p), func(at unsafe.Pointer) { handed[at] = true })
	makes(t, p, givenWant)
	u, _ := code.Compile(p)
	if room(reflect.ValueOf(p), func(unsafe.Pointer) {}) != was {
		t.Error("what was handed in was changed")
	}
	own := map[unsafe.Pointer]bool{}
	room(reflect.ValueOf(u), func(at unsafe.Pointer) {
		if handed[at] || own[at] {
			t.Error("what is answered shares memory")
		}
		own[at] = true
	})
	if len(own) < 25 {
		t.Errorf("only %d lists and texts", len(own))
	}
	// It stays, when the caller changes what was handed in, and another answer.
	other, _ := code.Compile(p)
	for i := range other.Protos {
		clear(other.Protos[i].Code[:cap(other.Protos[i].Code)])
	}
	for i := range p.Body {
		p.Body[i].Kids = append(p.Body[i].Kids, num(1))
		p.Body[i].Kids[0] = api.Core{}
		p.Body[i].Quote.Kids = nil
	}
	if got := shown(u); got != givenWant {
		t.Errorf("what was answered is changed: %s", got)
	}
}

// Z1, Z2: nothing is kept, so that calls do not touch each other.
func TestZ2AtOnce(t *testing.T) {
	p := given(t)
	var all sync.WaitGroup
	got := make([]string, 8)
	for i := range got {
		all.Go(func() {
			u, _ := code.Compile(p)
			got[i] = shown(u)
		})
	}
	all.Wait()
	for _, s := range got {
		if s != givenWant {
			t.Errorf("one of several calls: %s", s)
		}
	}
}

// Z3: nil and a list without entries are the same.
func TestZ3Empty(t *testing.T) {
	for _, none := range [][]api.Core{nil, {}} {
		makes(t, api.Part{Name: "m", Body: none}, "0: ret")
		fails(t, part(seq(none...)), api.ErrMany)
		c := num(1)
		c.Kids = none
		gives(t, c, "1", "")
	}
	for _, none := range [][]api.Datum{nil, {}} {
		gives(t, quote(list(none...)), "'()", "")
	}
}
