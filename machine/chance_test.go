package machine_test

import (
	"math/rand"
	"slices"
	"strings"
	"testing"

	"graftwood/api"
	"graftwood/machine"
	"graftwood/model"
)

// chance makes parts, most of whose runs do not end at once: it knows what each parameter is.
type chance struct {
	*rand.Rand
	odd int    // one of so many expressions is odd
	lib string // whose part is being made
}

// What expressions are: numbers, truths, pairs, procedures of one number that are a number, or anything.
const whats = "nbpf*"

func core(kind int, kids ...api.Core) api.Core { return api.Core{Kind: kind, Kids: kids} }
func constant(n int64) api.Core                { return api.Core{Kind: api.CNum, N: n} }
func base(own string) api.Core                 { return api.Core{Kind: api.CPrim, Own: own} }
func local(i int) api.Core                     { return api.Core{Kind: api.CLocal, Index: i} }
func call(l ...api.Core) api.Core              { return core(api.CCall, l...) }
func datum(d api.Datum) api.Core               { return api.Core{Kind: api.CQuote, Quote: d} }
func lambda(n int, body api.Core) api.Core {
	return api.Core{Kind: api.CLambda, Index: n, Kids: []api.Core{body}}
}

func (c chance) one(l ...api.Core) api.Core { return l[c.Intn(len(l))] }

func (c chance) what() byte { return whats[c.Intn(len(whats))] }

// name is that of a global, that is so.
func (c chance) name(what byte) string { return string([]byte{what, "xyz"[c.Intn(3)]}) }

// global is one that is so, of this part or one ahead, seldom of one behind.
func (c chance) global(what byte) api.Core {
	lib := c.lib
	if c.Intn(3) == 0 {
		lib = libs[c.Intn(slices.Index(libs, lib)+1)]
	}
	if c.Intn(c.odd) == 0 {
		lib = libs[c.Intn(len(libs))]
	}
	return api.Core{Kind: api.CGlobal, Lib: lib, Own: c.name(what)}
}

var libs = []string{"m", "a b", ""}

func (c chance) set(kind int, own string, kid api.Core) api.Core {
	return api.Core{Kind: kind, Lib: c.lib, Own: own, Kids: []api.Core{kid}}
}

// expr is an expression that is so; around is what the parameters are, the nearest one last.
func (c chance) expr(what byte, around string, deep int) api.Core {
	if c.Intn(c.odd) == 0 {
		what = c.what()
	}
	if deep <= 0 || c.Intn(6) == 0 {
		return c.simple(what, around)
	}
	deep--
	of := func(what byte) api.Core { return c.expr(what, around, deep) }
	switch c.Intn(14) {
	case 0:
		return core(api.CIf, of(c.what()), of(what), of(what))
	case 1:
		return core(api.CSeq, of('*'), of(what))
	case 2, 3:
		return c.let(what, around, deep)
	case 4:
		if i := c.param(what, around); i >= 0 {
			return api.Core{Kind: api.CSetLocal, Index: i, Kids: []api.Core{of(what)}}
		}
	case 5:
		return c.set([]int{api.CSetGlobal, api.CDefine}[c.Intn(2)], c.name(what), of(what))
	case 6:
		return call(base("out"), of(what))
	case 7:
		if c.Intn(2) == 0 {
			return call(base("cdr"), call(base("cons"), of('*'), of(what)))
		}
		return call(base("car"), call(base("cons"), of(what), of('*')))
	}
	return c.own(what, around, deep)
}

// param is one of those around that are so: -1, if there is none.
func (c chance) param(what byte, around string) int {
	for range 5 {
		if len(around) == 0 {
			return -1
		}
		at := c.Intn(len(around))
		if around[at] == what || what == '*' {
			return len(around) - 1 - at
		}
	}
	return -1
}

func (c chance) simple(what byte, around string) api.Core {
	if i := c.param(what, around); i >= 0 && c.Intn(3) > 0 {
		return local(i)
	}
	if c.Intn(6) == 0 {
		return c.global(what)
	}
	switch what {
	case 'n':
		if c.Intn(15) == 0 {
			return c.one(constant(c.Int63n(2000)*(api.MaxInt/1000)-api.MaxInt), constant(1<<c.Intn(49)))
		}
		return c.one(constant(c.Int63n(5)), constant(c.Int63n(300)-150), datum(api.Datum{Kind: api.DNum, N: 7}))
	case 'b':
		return api.Core{Kind: api.CBool, N: c.Int63n(2)}
	case 'p':
		return datum(list(c.datum(3), c.datum(2), c.datum(2)))
	case 'f':
		return c.one(lambda(1, local(0)), lambda(1, call(base("+"), local(0), constant(1))))
	}
	return c.one(constant(3), api.Core{Kind: api.CBool}, datum(c.datum(3)), datum(list()), base("car"), base("eq?"), lambda(0, constant(4)))
}

func (c chance) datum(deep int) api.Datum {
	if deep > 0 && c.Intn(2) == 0 {
		d := list()
		for range c.Intn(4) {
			d.Kids = append(d.Kids, c.datum(deep-1))
		}
		return d
	}
	return []api.Datum{sym("a"), sym("b"), sym("car"), {Kind: api.DBool, N: 1}, {Kind: api.DBool}, {Kind: api.DNum, N: -4}}[c.Intn(6)]
}

// let is a call of a procedure that is made right there.
func (c chance) let(what byte, around string, deep int) api.Core {
	within := around
	l := make([]api.Core, 1)
	n := c.Intn(4)
	for range n {
		w := c.what()
		within += string(w)
		l = append(l, c.expr(w, around, deep))
	}
	l[0] = lambda(n, c.expr(what, within, deep))
	if c.Intn(c.odd) == 0 {
		l[0].Index++
	}
	return call(l...)
}

// own is an expression by a primitive, or a procedure, that what is so comes of.
func (c chance) own(what byte, around string, deep int) api.Core {
	of := func(what byte) api.Core { return c.expr(what, around, deep) }
	switch what {
	case 'n':
		switch c.Intn(4) {
		case 0:
			return call(of('f'), of('n'))
		case 1:
			return call(base("*"), of('n'), of('n'))
		}
		return call(c.one(base("+"), base("-")), of('n'), of('n'))
	case 'b':
		switch c.Intn(4) {
		case 0:
			return call(c.one(base("<"), base("=")), of('n'), of('n'))
		case 1:
			return call(base("eq?"), of('*'), of('*'))
		case 2:
			return call(lambda(1, call(base("eq?"), local(0), local(0))), of('*'))
		}
		return call(c.one(base("not"), base("null?"), base("pair?")), of('*'))
	case 'p':
		return call(base("cons"), of('*'), of('*'))
	case 'f':
		return lambda(1, c.expr('n', around+"n", deep))
	}
	return of("nbpf"[c.Intn(4)])
}

// part defines globals, and then does much with them; what was left out is defined in the end.
func (c chance) part(lib string) api.Part {
	c.lib = lib
	simple := map[byte]api.Core{'n': constant(c.Int63n(9)), 'b': {Kind: api.CBool, N: 1}, 'p': datum(list(sym("a"))), 'f': lambda(1, local(0)), '*': base("car")}
	p := api.Part{Name: lib}
	var last []api.Core
	for _, own := range strings.Fields("nx ny nz bx by bz px py pz fx fy fz *x *y *z") {
		def := c.set(api.CDefine, own, simple[own[0]])
		if c.Intn(min(10*c.odd, 150)) > 0 {
			p.Body = append(p.Body, def)
		} else {
			last = append(last, def)
		}
	}
	// One that calls itself, as often as it is told to, or much more often.
	count := call(base("-"), local(0), constant(1))
	again := call(api.Core{Kind: api.CGlobal, Lib: lib, Own: "fy"}, count)
	more := c.one(constant(1), constant(2), again, c.expr('n', "n", 3))
	p.Body = append(p.Body, c.set(api.CDefine, "fy", lambda(1, core(api.CIf, call(base("<"), local(0), constant(1)), c.expr('n', "n", 2), call(base("+"), again, more)))))
	often := c.one(constant(int64(c.Intn(6))), constant(int64(190+c.Intn(12))))
	p.Body = append(p.Body, c.set(api.CDefine, "fz", lambda(1, call(api.Core{Kind: api.CGlobal, Lib: lib, Own: "fy"}, often))))
	if c.Intn(3) == 0 {
		p.Body = append(p.Body, call(api.Core{Kind: api.CGlobal, Lib: lib, Own: "fz"}, constant(1)))
	}
	for range 1 + c.Intn(5) {
		e := c.expr(c.what(), "", 5)
		p.Body = append(p.Body, c.one(e, call(base("out"), e)))
	}
	p.Body = append(p.Body, last...)
	return p
}

func (c chance) parts() []api.Part {
	var out []api.Part
	for _, lib := range libs {
		out = append(out, c.part(lib))
	}
	return out
}

// asOther: Run and Wrong answer as the others do.
func asOther(t *testing.T, im api.Image, steps int) (api.Result, api.Errno) {
	t.Helper()
	res, err := machine.Run(im, steps)
	want, werr := otherRun(im, steps)
	if err != werr || res.How != want.How || !slices.Equal(res.Out, want.Out) {
		t.Fatalf("%v with %d steps is %v %v, not %v %v", im, steps, res, err, want, werr)
	}
	if err := machine.Wrong(im); err != otherWrong(im) {
		t.Fatalf("%v: Wrong is %v, not %v", im, err, otherWrong(im))
	}
	return res, err
}

func TestK2AsOther(t *testing.T) {
	met, put := map[int]int{}, 0
	for _, odd := range []int{8, 30, 200, 1 << 30} {
		c := chance{Rand: rand.New(rand.NewSource(int64(odd))), odd: odd}
		for range 500 {
			im := linked(t, c.parts())
			res, err := asOther(t, im, []int{c.Intn(200), c.Intn(1000), 3000, 20000}[c.Intn(4)])
			if err != api.OK {
				t.Fatalf("%v: %v", im, err)
			}
			met[res.How]++
			put += len(res.Out)
		}
	}
	for how := api.RunDone; how <= api.RunMuch; how++ {
		if met[how] < 50 {
			t.Errorf("%d came %d times", how, met[how])
		}
	}
	if put < 5000 {
		t.Errorf("only %d things were put out", put)
	}
}

// The compiler is right: what was compiled and linked does just what it does as it stands.
func TestK2AsModel(t *testing.T) {
	met := map[int]int{}
	for _, odd := range []int{8, 30, 200, 1 << 30} {
		c := chance{Rand: rand.New(rand.NewSource(int64(odd + 1))), odd: odd}
		for range 1000 {
			l := c.parts()
			want, f := model.Run(l, 30000)
			got, err := machine.Run(linked(t, l), 60000)
			if f.Err != api.OK || err != api.OK {
				t.Fatalf("%v: %v, %v", l, f, err)
			}
			if want.How == api.RunSteps || got.How == api.RunSteps {
				least := min(len(want.Out), len(got.Out))
				want.Out, got.Out = want.Out[:least], got.Out[:least]
				want.How, got.How = api.RunSteps, api.RunSteps
			}
			if want.How != got.How || !slices.Equal(want.Out, got.Out) {
				t.Fatalf("%v: as it stands %v, compiled %v", l, want, got)
			}
			met[got.How]++
		}
	}
	for how := api.RunDone; how <= api.RunMuch; how++ {
		if met[how] < 50 {
			t.Errorf("%d came %d times", how, met[how])
		}
	}
}

// spoil changes something in im, seldom so that it stays right.
func (c chance) spoil(im *api.Image) {
	p := &im.Protos[c.Intn(len(im.Protos))]
	in := &p.Code[c.Intn(len(p.Code))]
	switch c.Intn(14) {
	case 0:
		im.Starts = im.Starts[:c.Intn(len(im.Starts)+1)]
	case 1:
		im.Starts = append(im.Starts, c.Intn(len(im.Protos)+2)-1)
	case 2:
		im.Globals = im.Globals[:c.Intn(len(im.Globals)+1)]
	case 3:
		p.Args = []int{-1, p.Args + 1, 2000, 2001, 0}[c.Intn(5)]
	case 4:
		p.Code = p.Code[:c.Intn(len(p.Code)+1)]
	case 5:
		in.Op = c.Intn(17)
	case 6, 7:
		in.A += c.Intn(5) - 2
	case 8:
		in.N = []int64{2, 1, -1, api.MaxInt + 1, -api.MaxInt - 1, -1 << 63}[c.Intn(6)]
	case 9:
		in.Own = []string{"", "zz", "if", "cons", "r c"}[c.Intn(5)]
	case 10:
		in.Quote = []api.Datum{{}, sym("A"), list(api.Datum{Kind: api.DBool, N: 2}), {Kind: api.DSym, Name: "a", Stamp: 1}}[c.Intn(4)]
	case 11:
		*in = c.instruction()
	case 12:
		in.Op = []int{api.ILocal, api.IGlobal, api.INum, api.IBool, api.IDefine, api.ISetGlobal, api.ISetLocal}[c.Intn(7)]
	case 13:
		// One more, and one that undoes it.
		at := c.Intn(len(p.Code))
		p.Code = slices.Insert(slices.Clip(p.Code), at, c.instruction(), api.Ins{Op: api.IPop})
	}
}

func (c chance) instruction() api.Ins {
	return []api.Ins{num(int64(c.Intn(3))), {Op: api.IBool}, with(api.IGlobal, c.Intn(50)), with(api.ILocal, c.Intn(3)), quote(list(sym("a"))), prim("car"), with(api.IClosure, c.Intn(40)), with(api.ICall, c.Intn(3)), with(api.IJump, c.Intn(30)), with(api.IUnless, c.Intn(30)), pop, ret}[c.Intn(12)]
}

// What is checked does not fall, and what is not right is told.
func TestK1AsOther(t *testing.T) {
	met := map[api.Errno]int{}
	c := chance{Rand: rand.New(rand.NewSource(1)), odd: 40}
	for range 1000 {
		im := linked(t, c.parts())
		for range 6 {
			spoilt := copied(im)
			for range 1 + c.Intn(2) {
				if len(spoilt.Protos) > 0 && !slices.ContainsFunc(spoilt.Protos, func(p api.Proto) bool { return len(p.Code) == 0 }) {
					c.spoil(&spoilt)
				}
			}
			_, err := asOther(t, spoilt, c.Intn(1500)-5)
			met[err]++
		}
	}
	for _, err := range []api.Errno{api.OK, api.ErrKind, api.ErrRange, api.ErrMany, api.ErrName, api.ErrFit} {
		if met[err] < 50 {
			t.Errorf("%v came %d times", err, met[err])
		}
	}
}

// copied is im with lists of its own.
func copied(im api.Image) api.Image {
	im.Globals, im.Protos, im.Starts = slices.Clone(im.Globals), slices.Clone(im.Protos), slices.Clone(im.Starts)
	for i := range im.Protos {
		im.Protos[i].Code = slices.Clone(im.Protos[i].Code)
	}
	return im
}
