package machine_test

import (
	"fmt"
	"reflect"
	"slices"
	"strconv"
	"strings"
	"testing"

	"graftwood/api"
	"graftwood/code"
	"graftwood/expand"
	"graftwood/link"
	"graftwood/machine"
	"graftwood/text"
)

var (
	pop = api.Ins{Op: api.IPop}
	ret = api.Ins{Op: api.IReturn}
)

func num(n int64) api.Ins       { return api.Ins{Op: api.INum, N: n} }
func with(op, a int) api.Ins    { return api.Ins{Op: op, A: a} }
func prim(own string) api.Ins   { return api.Ins{Op: api.IPrim, Own: own} }
func quote(d api.Datum) api.Ins { return api.Ins{Op: api.IQuote, Quote: d} }

func sym(s string) api.Datum        { return api.Datum{Kind: api.DSym, Name: s} }
func list(l ...api.Datum) api.Datum { return api.Datum{Kind: api.DList, Kids: l} }

func proto(args int, l ...api.Ins) api.Proto { return api.Proto{Args: args, Code: l} }

// times is l, so often.
func times(n int, l ...api.Ins) []api.Ins { return slices.Repeat(l, n) }

// alone is an image of one body, and nothing else.
func alone(l ...api.Ins) api.Image {
	return api.Image{Protos: []api.Proto{proto(0, append(slices.Clip(l), ret)...)}, Starts: []int{0}}
}

// image has so many globals, and those procedures: `0: fn1 pop ret | 2: @1 ret` is a body, and a procedure of two arguments.
func image(globals int, protos string, starts ...int) api.Image {
	return api.Image{Globals: make([]api.Bind, globals), Protos: procedures(protos), Starts: starts}
}

// body is an image of a body and the procedures behind it, with three globals.
func body(protos string) api.Image {
	return image(3, "0: "+protos, 0)
}

func procedures(s string) []api.Proto {
	var out []api.Proto
	for _, one := range strings.Split(s, "|") {
		words := strings.Fields(one)
		if len(words) == 0 {
			continue
		}
		p := api.Proto{Args: number(strings.TrimSuffix(words[0], ":"))}
		for _, w := range words[1:] {
			p.Code = append(p.Code, instruction(w))
		}
		out = append(out, p)
	}
	return out
}

func number(s string) int {
	n, err := strconv.Atoi(s)
	if err != nil {
		panic(s)
	}
	return n
}

// instruction is one by a word: 5 #1 'a '(a,b) @2 car fn1 call2 to3 unless3 set@2 get7 set7 def7 pop ret.
func instruction(w string) api.Ins {
	if n, err := strconv.ParseInt(w, 10, 64); err == nil {
		return num(n)
	}
	if s, ok := strings.CutPrefix(w, "#"); ok {
		return api.Ins{Op: api.IBool, N: int64(number(s))}
	}
	if s, ok := strings.CutPrefix(w, "'"); ok {
		l, _ := text.Read(strings.ReplaceAll(s, ",", " "))
		return quote(l[0])
	}
	for _, x := range []struct {
		op int
		w  string
	}{
		{api.ISetLocal, "set@"}, {api.ILocal, "@"}, {api.IClosure, "fn"}, {api.ICall, "call"}, {api.IJump, "to"}, {api.IUnless, "unless"},
		{api.IGlobal, "get"}, {api.ISetGlobal, "set"}, {api.IDefine, "def"},
	} {
		if s, ok := strings.CutPrefix(w, x.w); ok {
			return with(x.op, number(s))
		}
	}
	switch w {
	case "pop":
		return pop
	case "ret":
		return ret
	}
	return prim(w)
}

// top has all of the base, and variables of library m.
func top() api.Scope {
	m := api.Top{Name: "m"}
	for _, s := range append(expand.Specials(), expand.Prims()...) {
		m.Binds = append(m.Binds, api.Bind{Here: s, Lib: "base", Own: s})
	}
	for _, s := range strings.Fields("x y f g h") {
		m.Binds = append(m.Binds, api.Bind{Here: s, Lib: "m", Own: s})
	}
	return api.Scope{Tops: []api.Top{m}}
}

// built is the image of forms, behind which all that they may speak of is defined.
func built(t *testing.T, forms string) api.Image {
	t.Helper()
	l, f := text.Read(forms + " (define x 1) (define y 1) (define f 1) (define g 1) (define h 1)")
	if f.Err != api.OK {
		t.Fatalf("%.200q: %v", forms, f)
	}
	p := api.Part{Name: "m"}
	for _, d := range l {
		c, err := expand.Expand(top(), 0, d)
		if err != api.OK {
			t.Fatalf("%.200q: %v", forms, err)
		}
		p.Body = append(p.Body, c)
	}
	return linked(t, []api.Part{p})
}

// linked is the image of parts.
func linked(t *testing.T, l []api.Part) api.Image {
	t.Helper()
	var units []api.Unit
	for _, p := range l {
		u, err := code.Compile(p)
		if err != api.OK {
			t.Fatalf("%s: %v", brief(p), err)
		}
		units = append(units, u)
	}
	im, f := link.Link(units)
	if f != (api.Fault{}) {
		t.Fatalf("%s: %v", brief(l), f)
	}
	return im
}

// brief is how something begins, where it is long.
func brief(x any) string {
	s := fmt.Sprint(x)
	return s[:min(len(s), 500)]
}

// ends: a run of im, with so many steps, ends so, when want was put out.
func ends(t *testing.T, im api.Image, steps, how int, want ...string) {
	t.Helper()
	res, err := machine.Run(im, steps)
	if err != api.OK || res.How != how || !slices.Equal(res.Out, want) {
		t.Errorf("%s: Run with %d steps is %.300q, %v: not %d, when %.300q was put out", brief(im.Protos), steps, fmt.Sprint(res), err, how, want)
	}
}

// stops: a body, and the procedures behind it, end so, when want was put out.
func stops(t *testing.T, protos string, how int, want ...string) {
	t.Helper()
	ends(t, body(protos), api.MaxSteps, how, want...)
}

// does: they run to their end, and put want out.
func does(t *testing.T, protos string, want ...string) {
	t.Helper()
	stops(t, protos, api.RunDone, want...)
}

// puts: what the words make is put out so.
func puts(t *testing.T, words, want string) {
	t.Helper()
	does(t, "out "+words+" call1 pop ret", want)
}

// takes: im takes just so many steps, however it ends.
func takes(t *testing.T, im api.Image, steps int) {
	t.Helper()
	res, err := machine.Run(im, steps)
	if res.How == api.RunSteps || err != api.OK {
		t.Errorf("%s: with %d steps it ends with %d, %v", brief(im.Protos), steps, res.How, err)
	}
	for n := range steps {
		if res, err := machine.Run(im, n); res.How != api.RunSteps || err != api.OK {
			t.Errorf("%s: with %d steps it ends with %d, %v", brief(im.Protos), n, res.How, err)
			return
		}
	}
}

// wrong: that is what is wrong with im, and Run says so, too, whatever the steps are.
func wrong(t *testing.T, im api.Image, want api.Errno) {
	t.Helper()
	if err := machine.Wrong(im); err != want {
		t.Errorf("%s: %v is wrong, not %v", brief(im), err, want)
	}
	for _, steps := range []int{0, 10, -1, api.MaxSteps + 1} {
		if want == api.OK {
			break
		}
		res, err := machine.Run(im, steps)
		if err != want || !reflect.DeepEqual(res, api.Result{}) {
			t.Errorf("%s: Run is %v, %v, not %v", brief(im), res, err, want)
		}
	}
}

// right: nothing is wrong with im, and it runs.
func right(t *testing.T, im api.Image) {
	t.Helper()
	wrong(t, im, api.OK)
	res, err := machine.Run(im, 0)
	if err != api.OK || res.How == 0 {
		t.Errorf("%s: Run is %v, %v", brief(im), res, err)
	}
}
