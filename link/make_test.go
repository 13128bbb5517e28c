package link_test

import (
	"fmt"
	"reflect"
	"slices"
	"strconv"
	"strings"
	"testing"

	"graftwood/api"
	"graftwood/link"
	"graftwood/object"
	"graftwood/text"
)

var (
	pop = api.Ins{Op: api.IPop}
	ret = api.Ins{Op: api.IReturn}
)

func num(n int64) api.Ins                { return api.Ins{Op: api.INum, N: n} }
func with(op, a int) api.Ins             { return api.Ins{Op: op, A: a} }
func of(op int, lib, own string) api.Ins { return api.Ins{Op: op, Lib: lib, Own: own} }
func sym(s string) api.Datum             { return api.Datum{Kind: api.DSym, Name: s} }
func list(l ...api.Datum) api.Datum      { return api.Datum{Kind: api.DList, Kids: l} }

// alone is a unit of one procedure.
func alone(name string, l ...api.Ins) api.Unit {
	return api.Unit{Name: name, Protos: []api.Proto{{Code: append(slices.Clip(l), ret)}}}
}

// units is those of s, a line each: `m = 0: fn1 pop ret | 2: @1 ret` has a body, and a procedure of two arguments.
func units(s string) []api.Unit {
	var out []api.Unit
	for _, line := range strings.Split(strings.TrimSpace(s), "\n") {
		name, protos, ok := strings.Cut(line, "=")
		if !ok {
			panic(line)
		}
		out = append(out, api.Unit{Name: strings.TrimSpace(name), Protos: procedures(protos)})
	}
	return out
}

// procedures is those of s: `0: fn1 pop ret | 2: @1 ret`.
func procedures(s string) []api.Proto {
	var out []api.Proto
	for _, one := range strings.Split(s, "|") {
		words := strings.Fields(one)
		if len(words) == 0 {
			continue
		}
		p := api.Proto{Args: number(strings.TrimSuffix(words[0], ":"))}
		for _, w := range words[1:] {
			p.Code = append(p.Code, instruction(w))
		}
		out = append(out, p)
	}
	return out
}

func number(s string) int {
	n, err := strconv.Atoi(s)
	if err != nil {
		panic(s)
	}
	return n
}

// instruction is one by a word: 5 #1 'a @2 car fn1 call2 to3 unless3 set@2 pop ret; m.x set:m.x def:m.x, or, where globals have numbers, get7 set7 def7.
func instruction(w string) api.Ins {
	if n, err := strconv.ParseInt(w, 10, 64); err == nil {
		return num(n)
	}
	if s, ok := strings.CutPrefix(w, "#"); ok {
		return api.Ins{Op: api.IBool, N: int64(number(s))}
	}
	if s, ok := strings.CutPrefix(w, "'"); ok {
		l, _ := text.Read(strings.ReplaceAll(s, ",", " "))
		return api.Ins{Op: api.IQuote, Quote: l[0]}
	}
	if in, ok := named(w); ok {
		return in
	}
	for _, x := range []struct {
		op int
		w  string
	}{
		{api.ISetLocal, "set@"}, {api.ILocal, "@"}, {api.IClosure, "fn"}, {api.ICall, "call"}, {api.IJump, "to"}, {api.IUnless, "unless"},
		{api.IGlobal, "get"}, {api.ISetGlobal, "set"}, {api.IDefine, "def"},
	} {
		if s, ok := strings.CutPrefix(w, x.w); ok {
			return with(x.op, number(s))
		}
	}
	switch w {
	case "pop":
		return pop
	case "ret":
		return ret
	}
	return api.Ins{Op: api.IPrim, Own: w}
}

// named is an instruction about a global that has a name.
func named(w string) (api.Ins, bool) {
	op := api.IGlobal
	if s, ok := strings.CutPrefix(w, "set:"); ok {
		op, w = api.ISetGlobal, s
	} else if s, ok := strings.CutPrefix(w, "def:"); ok {
		op, w = api.IDefine, s
	}
	lib, own, ok := strings.Cut(w, ".")
	return of(op, lib, own), ok
}

// image is one of globals, such as `m.x n.y`, procedures and starts.
func image(globals, protos string, starts ...int) api.Image {
	im := api.Image{Protos: procedures(protos), Starts: starts}
	for _, w := range strings.Fields(globals) {
		lib, own, _ := strings.Cut(w, ".")
		im.Globals = append(im.Globals, api.Bind{Lib: lib, Own: own})
	}
	return im
}

// brief is how something begins, where it is long.
func brief(x any) string {
	s := fmt.Sprint(x)
	return s[:min(len(s), 500)]
}

// linked is the image of l, with which nothing is wrong.
func linked(t *testing.T, l []api.Unit) api.Image {
	t.Helper()
	im, f := link.Link(l)
	if f != (api.Fault{}) {
		t.Errorf("%s: %v", brief(l), f)
		return api.Image{}
	}
	if err := object.WrongNumbered(im.Protos, im.Starts, len(im.Globals)); err != api.OK {
		t.Errorf("%s: %v is wrong with the image %s", brief(l), err, brief(im))
	}
	return im
}

// gives: the units of s are that image.
func gives(t *testing.T, s string, want api.Image) {
	t.Helper()
	givesAll(t, units(s), want)
}

func givesAll(t *testing.T, l []api.Unit, want api.Image) {
	t.Helper()
	if im := linked(t, l); !same(im, want) {
		t.Errorf("%s: the image is\n%s, not\n%s", brief(l), brief(im), brief(want))
	}
}

// fails: that is wrong with the units of s, and with that one.
func fails(t *testing.T, s string, err api.Errno, at int) {
	t.Helper()
	failsAll(t, units(s), err, at)
}

func failsAll(t *testing.T, l []api.Unit, err api.Errno, at int) {
	t.Helper()
	im, f := link.Link(l)
	if f != (api.Fault{Err: err, At: at}) || !reflect.DeepEqual(im, api.Image{}) {
		t.Errorf("%s: %s, %v comes, not %v at %d", brief(l), brief(im), f, err, at)
	}
}

// same tells whether both are the same image: nil and a list without entries are.
func same(a, b api.Image) bool {
	return reflect.DeepEqual(tidy(a), tidy(b))
}

func tidy(im api.Image) api.Image {
	im.Globals, im.Starts = append([]api.Bind{}, im.Globals...), append([]int{}, im.Starts...)
	im.Protos = append([]api.Proto{}, im.Protos...)
	for i := range im.Protos {
		im.Protos[i].Code = append([]api.Ins{}, im.Protos[i].Code...)
		for j := range im.Protos[i].Code {
			in := &im.Protos[i].Code[j]
			in.Quote = tidyDatum(in.Quote)
		}
	}
	return im
}

func tidyDatum(d api.Datum) api.Datum {
	var kids []api.Datum
	for _, k := range d.Kids {
		kids = append(kids, tidyDatum(k))
	}
	d.Kids = kids
	return d
}
