package machine_test

import (
	"reflect"
	"slices"
	"strings"
	"sync"
	"testing"
	"unsafe"

	"graftwood/api"
	"graftwood/machine"
)

// Z1: what is among its own kids is too deep, or too much.
func TestZ1OwnKid(t *testing.T) {
	d := list(sym("a"), sym("b"))
	d.Kids[1] = d
	wrong(t, alone(quote(d), pop), api.ErrMuch)
	// What is no list has nothing in it, and what is no IQuote nothing quoted.
	odd := sym("a")
	odd.Kids = []api.Datum{d}
	other := num(1)
	other.Quote = d
	ends(t, alone(prim("out"), quote(odd), with(api.ICall, 1), pop, other, pop), 10, api.RunDone, "a")
}

// deep is procedures of one parameter within each other, as many as there may be; bodies that call them, so that the innermost one is global 0 in the end; and a last body.
func deep() api.Image {
	const first, last, each = 9, api.MaxParts*api.MaxProtos - 1, 2500
	im := api.Image{Globals: make([]api.Bind, 1)}
	begin := with(api.IClosure, first)
	for left := last - first; left > 0; left -= each {
		calls := times(min(left, each), num(7), with(api.ICall, 1))
		im.Protos = append(im.Protos, proto(0, slices.Concat([]api.Ins{begin}, calls, []api.Ins{with(api.IDefine, 0), pop, ret})...))
		begin = with(api.IGlobal, 0)
	}
	im.Protos = append(im.Protos, proto(0, ret))
	for i := range first {
		im.Starts = append(im.Starts, i)
	}
	for i := first; i < last; i++ {
		im.Protos = append(im.Protos, proto(1, with(api.IClosure, i+1), ret))
	}
	im.Protos = append(im.Protos, proto(1, with(api.ILocal, last-first), ret))
	return im
}

// Z1: a run that looks for parameters far away again and again ends, and finds them.
func TestZ1Far(t *testing.T) {
	im := deep()
	last := im.Starts[len(im.Starts)-1]
	im.Protos[0].Code[1] = num(5)
	im.Protos[last].Code = []api.Ins{prim("out"), with(api.IGlobal, 0), num(9), with(api.ICall, 1), with(api.ICall, 1), pop, ret}
	ends(t, im, api.MaxSteps, api.RunDone, "5")
	inner := &im.Protos[len(im.Protos)-1]
	far := inner.Code[0]
	inner.Code = append(times(2900, far, pop), far, ret)
	im.Protos[last].Code = append(times(200, with(api.IGlobal, 0), num(9), with(api.ICall, 1), pop), ret)
	ends(t, im, api.MaxSteps, api.RunSteps)
	far.A++
	inner.Code = []api.Ins{far, ret}
	wrong(t, im, api.ErrRange)
}

// Z1: a run that comes to long lists with nearly each step, and keeps them all, ends: what it does not look at takes no room.
func TestZ1Quotes(t *testing.T) {
	long := quote(list(slices.Repeat([]api.Datum{sym("a")}, api.MaxNodes-1)...))
	im := body("1 def0 pop fn1 def1 pop ret | 0: 1 ret")
	im.Protos[0].Code = append(im.Protos[0].Code[:6:6], append(times(300, with(api.IGlobal, 1), with(api.ICall, 0), pop), ret)...)
	im.Protos[1].Code = append(times(900, prim("cons"), long, with(api.IGlobal, 0), with(api.ICall, 2), with(api.ISetGlobal, 0), pop), num(1), ret)
	ends(t, im, api.MaxSteps, api.RunSteps)
}

// Z1: as many calls as there may be go on, each over a stack as high as there may be.
func TestZ1High(t *testing.T) {
	im := body("fn1 def0 pop get0 call0 pop ret | 0: 1 ret")
	im.Protos[1].Code = slices.Concat(times(2990, num(1)), []api.Ins{with(api.IGlobal, 0), with(api.ICall, 0)}, times(2990, pop), []api.Ins{ret})
	ends(t, im, api.MaxSteps, api.RunMuch)
	ends(t, im, 500000, api.RunSteps)
}

// Z1: so does one that doubles with each call.
func TestZ1Steps(t *testing.T) {
	ends(t, built(t, "(define (f a) (if (= a 0) 1 (+ (f (- a 1)) (f (- a 1))))) (out (f 14)) (f 100)"), api.MaxSteps, api.RunSteps, "16384")
	ends(t, built(t, "(define (f a) (if (= a 0) 'b (let ((c (f (- a 1)))) (cons c c)))) (out (f 3)) (out (f 150))"), api.MaxSteps, api.RunMuch, "(((b . b) b . b) (b . b) b . b)")
}

// Z1: procedures may be the same memory.
func TestZ1Shared(t *testing.T) {
	p := procedures("0: out 1 call1 pop ret")[0]
	ends(t, api.Image{Protos: []api.Proto{p, p, p}, Starts: []int{0, 1, 2}}, 15, api.RunDone, "1", "1", "1")
}

// given is an image with spare room everywhere, in which something stands, and all texts of their own.
func given() api.Image {
	im := image(2, "0: fn1 def0 pop '(aa,(bb,1),#t) def1 pop get0 3 'qq call2 pop ret"+
		"| 2: = @1 0 call2 unless12 out cons @0 get1 call2 call1 to25 cons @1 @0 call2 set@0 pop get0 - @1 1 call2 @0 call2 ret"+
		"| 0: out 'sym call1 pop out car cdr get1 call1 call1 call1 pop out get0 call1 pop ret", 0, 2)
	for i := range im.Protos {
		code := im.Protos[i].Code
		for j := range code {
			code[j].Own, code[j].Quote = strings.Clone(code[j].Own), spared(code[j].Quote)
		}
		im.Protos[i].Code = roomy(code, prim("out"))
	}
	im.Globals = roomy(im.Globals, api.Bind{Lib: "zz"})
	im.Protos = roomy(im.Protos, procedures("0: out 1 call1 pop ret")[0])
	im.Starts = roomy(im.Starts, 3)
	return im
}

var givenWant = []string{"((1 2 3 . qq) aa (bb 1) #t)", "sym", "(bb 1)", "#p"}

// roomy is l with spare room behind it, in which what stands.
func roomy[T any](l []T, what T) []T {
	out := append(make([]T, 0, len(l)+3), l...)
	for i := len(l); i < cap(out); i++ {
		out[:cap(out)][i] = what
	}
	return out
}

func spared(d api.Datum) api.Datum {
	for i, k := range d.Kids {
		d.Kids[i] = spared(k)
	}
	if d.Kind == api.DList {
		d.Kids = roomy(d.Kids, sym("zz"))
	}
	d.Name = strings.Clone(d.Name)
	return d
}

// full is v with the spare room of each list in it, as a text; own tells where each text in it stands.
func full(v reflect.Value, own func(string)) string {
	var out []string
	switch v.Kind() {
	case reflect.Slice:
		all := v.Slice(0, v.Cap())
		for i := range all.Len() {
			out = append(out, full(all.Index(i), own))
		}
	case reflect.Struct:
		for i := range v.NumField() {
			out = append(out, full(v.Field(i), own))
		}
	case reflect.String:
		own(v.String())
		return v.String()
	case reflect.Int, reflect.Int64:
		return string(rune('0' + v.Int()%100))
	}
	return "[" + strings.Join(out, " ") + "]"
}

// Z2: neither what is handed in nor its spare room is changed, or looked at; what is answered is the caller's own.
func TestZ2OnlyRead(t *testing.T) {
	im := given()
	handed := map[*byte]bool{}
	was := full(reflect.ValueOf(im), func(s string) { handed[unsafe.StringData(s)] = len(s) > 0 })
	right(t, im)
	ends(t, im, api.MaxSteps, api.RunDone, givenWant...)
	for n := range 100 {
		machine.Run(im, n)
	}
	res, _ := machine.Run(im, api.MaxSteps)
	if full(reflect.ValueOf(im), func(string) {}) != was {
		t.Error("what was handed in was changed")
	}
	for _, s := range res.Out {
		if handed[unsafe.StringData(s)] {
			t.Errorf("%q was handed in", s)
		}
	}
	// What is put out stays, when the caller changes what was handed in, and another answer.
	other, _ := machine.Run(im, api.MaxSteps)
	clear(other.Out[:cap(other.Out)])
	for _, p := range im.Protos {
		for _, in := range p.Code {
			clear(in.Quote.Kids)
		}
		clear(p.Code)
	}
	if !slices.Equal(res.Out, givenWant) {
		t.Errorf("what was put out is changed: %q", res.Out)
	}
}

// Z1, Z2: nothing is kept, so that runs do not touch each other.
func TestZ2AtOnce(t *testing.T) {
	im := given()
	var all sync.WaitGroup
	got := make([]api.Result, 8)
	for i := range got {
		all.Go(func() {
			for range 20 {
				right(t, im)
				got[i], _ = machine.Run(im, 1000)
			}
		})
	}
	all.Wait()
	for _, r := range got {
		if r.How != api.RunDone || !slices.Equal(r.Out, givenWant) {
			t.Errorf("one of several runs: %v", r)
		}
	}
}

// Z3: nil and a list without entries are the same.
func TestZ3Empty(t *testing.T) {
	for _, starts := range [][]int{nil, {}} {
		for _, protos := range [][]api.Proto{nil, {}} {
			for _, globals := range [][]api.Bind{nil, {}} {
				ends(t, api.Image{Globals: globals, Protos: protos, Starts: starts}, 0, api.RunDone)
			}
		}
		wrong(t, api.Image{Protos: procedures("0: ret"), Starts: starts}, api.ErrFit)
	}
	for _, none := range [][]api.Ins{nil, {}} {
		wrong(t, api.Image{Protos: []api.Proto{{Code: none}}, Starts: []int{0}}, api.ErrMany)
	}
	for _, none := range [][]api.Datum{nil, {}} {
		ends(t, alone(prim("out"), quote(list(none...)), with(api.ICall, 1), pop), 10, api.RunDone, "()")
	}
}
