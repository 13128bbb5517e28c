package model_test

import (
	"math/rand"
	"slices"
	"strings"
	"testing"

	"graftwood/api"
	"graftwood/model"
)

// chance makes expressions, most of whose runs do not end at once: it knows what each parameter is.
type chance struct {
	*rand.Rand
	odd int // one of so many expressions is odd
}

// What expressions are: numbers, truths, pairs, procedures of one number that are a number, or anything.
const whats = "nbpf*"

func (c chance) one(l ...api.Core) api.Core { return l[c.Intn(len(l))] }

func (c chance) what() byte { return whats[c.Intn(len(whats))] }

// around is what the parameters are, the nearest one last.
func (c chance) expr(what byte, around string, deep int) api.Core {
	if c.Intn(c.odd) == 0 {
		what = c.what()
	}
	if deep <= 0 || c.Intn(6) == 0 {
		return c.simple(what, around)
	}
	deep--
	of := func(what byte) api.Core { return c.expr(what, around, deep) }
	switch c.Intn(14) {
	case 0:
		return choose(of(whats[c.Intn(5)]), of(what), of(what))
	case 1:
		return seq(of('*'), of(what))
	case 2, 3:
		return c.let(what, around, deep)
	case 4:
		if i := c.param(what, around); i >= 0 {
			return setLocal(i, of(what))
		}
	case 5:
		kind := c.one(setGlobal("", num(0)), define("", num(0)))
		kind.Own, kind.Kids = c.name(what), []api.Core{of(what)}
		return kind
	case 6:
		return out(of(what))
	case 7:
		pair := call(prim("cons"), of(what), of('*'))
		if c.Intn(2) == 0 {
			pair.Kids[1], pair.Kids[2] = pair.Kids[2], pair.Kids[1]
			return call(prim("cdr"), pair)
		}
		return call(prim("car"), pair)
	}
	return c.own(what, around, deep)
}

// name is that of a global, that is so.
func (c chance) name(what byte) string {
	return string([]byte{what, "xyz"[c.Intn(3)]})
}

// param is one of those around that are so: -1, if there is none.
func (c chance) param(what byte, around string) int {
	for range 5 {
		if len(around) == 0 {
			return -1
		}
		at := c.Intn(len(around))
		if around[at] == what || what == '*' {
			return len(around) - 1 - at
		}
	}
	return -1
}

func (c chance) simple(what byte, around string) api.Core {
	if i := c.param(what, around); i >= 0 && c.Intn(3) > 0 {
		return local(i)
	}
	if c.Intn(8) == 0 {
		return global(c.name(what))
	}
	switch what {
	case 'n':
		return c.one(num(c.Int63n(5)), num(c.Int63n(300)-150), num(c.Int63n(2000)*(api.MaxInt/1000)-api.MaxInt), num(1<<c.Intn(49)), quote(api.Datum{Kind: api.DNum, N: 7}))
	case 'b':
		return boolean(c.Int63n(2))
	case 'p':
		return quote(list(c.datum(3), c.datum(2), c.datum(2)))
	case 'f':
		return c.one(lambda(1, local(0)), lambda(1, call(prim("+"), local(0), num(1))), global("fx"), global("fy"))
	}
	return c.one(num(3), boolean(0), quote(c.datum(3)), quote(list()), prim("car"), prim("eq?"), lambda(0, num(4)))
}

func (c chance) datum(deep int) api.Datum {
	if deep > 0 && c.Intn(2) == 0 {
		d := list()
		for range c.Intn(4) {
			d.Kids = append(d.Kids, c.datum(deep-1))
		}
		return d
	}
	return []api.Datum{sym("a"), sym("b"), sym("car"), {Kind: api.DBool, N: 1}, {Kind: api.DBool}, {Kind: api.DNum, N: -4}}[c.Intn(6)]
}

// let is a call of a procedure that is made right there.
func (c chance) let(what byte, around string, deep int) api.Core {
	within := around
	l := make([]api.Core, 1)
	n := c.Intn(4)
	for range n {
		w := c.what()
		within += string(w)
		l = append(l, c.expr(w, around, deep))
	}
	l[0] = lambda(n, c.expr(what, within, deep))
	if c.Intn(c.odd) == 0 {
		l[0].Index++
	}
	return call(l...)
}

// own is an expression by a primitive, or a procedure, that what is so comes of.
func (c chance) own(what byte, around string, deep int) api.Core {
	of := func(what byte) api.Core { return c.expr(what, around, deep) }
	switch what {
	case 'n':
		switch c.Intn(4) {
		case 0:
			return call(of('f'), of('n'))
		case 1:
			return call(prim("*"), of('n'), of('n'))
		}
		return call(c.one(prim("+"), prim("-")), of('n'), of('n'))
	case 'b':
		switch c.Intn(4) {
		case 0:
			return call(c.one(prim("<"), prim("=")), of('n'), of('n'))
		case 1:
			v := of('*')
			return call(prim("eq?"), v, c.one(v, of('*')))
		case 2:
			return call(lambda(1, call(prim("eq?"), local(0), local(0))), of('*'))
		}
		return call(c.one(prim("not"), prim("null?"), prim("pair?")), of('*'))
	case 'p':
		return call(prim("cons"), of('*'), of('*'))
	case 'f':
		return lambda(1, c.expr('n', around+"n", deep))
	}
	return of("nbpf"[c.Intn(4)])
}

// parts define globals, and then do much with them.
func (c chance) parts() []api.Part {
	var first []api.Core
	for _, own := range strings.Fields("nx ny nz bx by bz px py pz fx fy fz *x *y *z") {
		simple := map[byte]api.Core{'n': num(c.Int63n(9)), 'b': boolean(1), 'p': quote(list(sym("a"))), 'f': lambda(1, local(0)), '*': prim("car")}
		if c.Intn(min(10*c.odd, 150)) > 0 {
			first = append(first, define(own, simple[own[0]]))
		}
	}
	// One that calls itself, as often as it is told to, or much more often.
	count := call(prim("-"), local(0), num(1))
	again := call(global("fy"), count)
	first = append(first, define("fy", lambda(1, choose(call(prim("<"), local(0), num(1)), c.expr('n', "n", 2), call(prim("+"), again, c.one(num(1), num(2), again, c.expr('n', "n", 3)))))))
	first = append(first, define("fz", lambda(1, call(global("fy"), c.one(num(int64(c.Intn(6))), num(int64(190+c.Intn(12))))))))
	l := []api.Part{part(first...)}
	for range 1 + c.Intn(3) {
		var body []api.Core
		for range 1 + c.Intn(4) {
			e := c.expr(c.what(), "", 5)
			body = append(body, c.one(e, out(e)))
		}
		l = append(l, part(body...))
	}
	return l
}

// asOther: Run and Wrong answer as the others do.
func asOther(t *testing.T, l []api.Part, steps int) (api.Result, api.Fault) {
	t.Helper()
	res, f := model.Run(l, steps)
	want, wf := otherRun(l, steps)
	if f != wf || res.How != want.How || !slices.Equal(res.Out, want.Out) {
		t.Fatalf("%v with %d steps is %v %v, not %v %v", l, steps, res, f, want, wf)
	}
	if g := model.Wrong(l); g != wf && wf != (api.Fault{Err: api.ErrRange}) {
		t.Fatalf("%v: Wrong is %v, not %v", l, g, wf)
	}
	return res, f
}

func TestG2AsOther(t *testing.T) {
	met, put := map[int]int{}, 0
	for _, odd := range []int{8, 30, 200, 1 << 30} {
		c := chance{rand.New(rand.NewSource(int64(odd))), odd}
		for range 3000 {
			l := c.parts()
			res, f := asOther(t, l, []int{c.Intn(40), c.Intn(400), 5000, 20000}[c.Intn(4)])
			if f.Err == api.OK {
				met[res.How]++
				put += len(res.Out)
			}
		}
	}
	for how := api.RunDone; how <= api.RunMuch; how++ {
		if met[how] < 100 {
			t.Errorf("%d came %d times", how, met[how])
		}
	}
	if put < 20000 {
		t.Errorf("only %d things were put out", put)
	}
}

// spoil changes something of c, or in it.
func (c chance) spoil(x *api.Core) {
	for len(x.Kids) > 0 && c.Intn(4) > 0 {
		x = &x.Kids[c.Intn(len(x.Kids))]
	}
	switch c.Intn(10) {
	case 0:
		x.Kind = c.Intn(16)
	case 1:
		x.Index += c.Intn(7) - 3
	case 2:
		x.N = []int64{2, -1, api.MaxInt + 1, -api.MaxInt - 1, -1 << 63}[c.Intn(5)]
	case 3:
		x.Own = []string{"", "zz", "if", "cons"}[c.Intn(4)]
	case 4:
		x.Quote = []api.Datum{{}, sym("A"), list(api.Datum{Kind: api.DBool, N: 2})}[c.Intn(3)]
	case 5:
		x.Kids = x.Kids[:c.Intn(len(x.Kids)+1)]
	case 6:
		x.Kids = append(slices.Clip(x.Kids), c.expr('*', "", 2))
	case 7:
		*x = deep(c.Intn(api.MaxNest+20), *x)
	case 8:
		*x = quote(api.Datum{Kind: api.DSym, Name: "a", Lib: c.Intn(2), Stamp: c.Intn(2)})
	case 9:
		*x = seq(append(times(api.MaxCore-c.Intn(100), num(1)), *x)...)
	}
}

func TestG1AsOther(t *testing.T) {
	met := map[api.Errno]int{}
	c := chance{rand.New(rand.NewSource(1)), 40}
	for range 3000 {
		l := c.parts()
		for range 1 + c.Intn(3) {
			p := l[c.Intn(len(l))]
			c.spoil(&p.Body[c.Intn(len(p.Body))])
		}
		_, f := asOther(t, l, c.Intn(2000)-5)
		met[f.Err]++
	}
	for _, err := range []api.Errno{api.OK, api.ErrKind, api.ErrRange, api.ErrMuch, api.ErrMany, api.ErrName, api.ErrFit} {
		if met[err] < 50 {
			t.Errorf("%v came %d times", err, met[err])
		}
	}
}
