package model_test

import (
	"reflect"
	"slices"
	"strings"
	"testing"

	"graftwood/api"
	"graftwood/expand"
	"graftwood/model"
	"graftwood/text"
)

func num(n int64) api.Core     { return api.Core{Kind: api.CNum, N: n} }
func boolean(n int64) api.Core { return api.Core{Kind: api.CBool, N: n} }
func prim(s string) api.Core   { return api.Core{Kind: api.CPrim, Own: s} }
func local(i int) api.Core     { return api.Core{Kind: api.CLocal, Index: i} }
func quote(d api.Datum) api.Core {
	return api.Core{Kind: api.CQuote, Quote: d}
}
func lambda(n int, body api.Core) api.Core {
	return api.Core{Kind: api.CLambda, Index: n, Kids: []api.Core{body}}
}
func setLocal(i int, c api.Core) api.Core {
	return api.Core{Kind: api.CSetLocal, Index: i, Kids: []api.Core{c}}
}
func global(own string) api.Core { return api.Core{Kind: api.CGlobal, Lib: "m", Own: own} }
func setGlobal(own string, c api.Core) api.Core {
	return api.Core{Kind: api.CSetGlobal, Lib: "m", Own: own, Kids: []api.Core{c}}
}
func define(own string, c api.Core) api.Core {
	return api.Core{Kind: api.CDefine, Lib: "m", Own: own, Kids: []api.Core{c}}
}
func call(l ...api.Core) api.Core { return api.Core{Kind: api.CCall, Kids: l} }
func seq(l ...api.Core) api.Core  { return api.Core{Kind: api.CSeq, Kids: l} }
func choose(a, b, c api.Core) api.Core {
	return api.Core{Kind: api.CIf, Kids: []api.Core{a, b, c}}
}
func out(c api.Core) api.Core { return call(prim("out"), c) }

func sym(s string) api.Datum             { return api.Datum{Kind: api.DSym, Name: s} }
func list(l ...api.Datum) api.Datum      { return api.Datum{Kind: api.DList, Kids: l} }
func part(l ...api.Core) api.Part        { return api.Part{Name: "m", Body: l} }
func alone(l ...api.Core) []api.Part     { return []api.Part{part(l...)} }
func times(n int, c api.Core) []api.Core { return slices.Repeat([]api.Core{c}, n) }

// top has all of the base, and variables of library m.
func top() api.Scope {
	m := api.Top{Name: "m"}
	for _, s := range append(expand.Specials(), expand.Prims()...) {
		m.Binds = append(m.Binds, api.Bind{Here: s, Lib: "base", Own: s})
	}
	for _, s := range strings.Fields("x y z f g h") {
		m.Binds = append(m.Binds, api.Bind{Here: s, Lib: "m", Own: s})
	}
	return api.Scope{Tops: []api.Top{m}}
}

// cores is the forms of s, expanded.
func cores(t *testing.T, s string) []api.Core {
	t.Helper()
	l, f := text.Read(s)
	if f.Err != api.OK {
		t.Fatalf("%.200q: %v", s, f)
	}
	var out []api.Core
	for _, d := range l {
		c, err := expand.Expand(top(), 0, d)
		if err != api.OK {
			t.Fatalf("%.200q: %v", s, err)
		}
		out = append(out, c)
	}
	return out
}

// ends: a run of l, with so many steps, ends so, when want was put out.
func ends(t *testing.T, l []api.Part, steps, how int, want ...string) {
	t.Helper()
	res, f := model.Run(l, steps)
	if f != (api.Fault{}) {
		t.Errorf("Run is wrong: %v", f)
		return
	}
	if res.How != how || !slices.Equal(res.Out, want) {
		t.Errorf("Run ends with %d, when %.300q was put out: not with %d, when %.300q was", res.How, res.Out, how, want)
	}
}

// does: forms run to their end, and put want out.
func does(t *testing.T, forms string, want ...string) {
	t.Helper()
	ends(t, alone(cores(t, forms)...), api.MaxSteps, api.RunDone, want...)
}

// stops: a run of forms ends so, when want was put out.
func stops(t *testing.T, forms string, how int, want ...string) {
	t.Helper()
	ends(t, alone(cores(t, forms)...), api.MaxSteps, how, want...)
}

// takes: l takes just so many steps.
func takes(t *testing.T, l []api.Part, steps int) {
	t.Helper()
	res, f := model.Run(l, steps)
	if res.How != api.RunDone || f != (api.Fault{}) {
		t.Errorf("with %d steps it ends with %d, %v", steps, res.How, f)
	}
	for n := range steps {
		if res, _ := model.Run(l, n); res.How != api.RunSteps {
			t.Errorf("with %d steps it ends with %d", n, res.How)
		}
	}
}

// wrong: that is what is wrong with l, and Run says so, too.
func wrong(t *testing.T, l []api.Part, want api.Errno, at int) {
	t.Helper()
	if f := model.Wrong(l); f != (api.Fault{Err: want, At: at}) {
		t.Errorf("Wrong is %v, not %v at %d", f, want, at)
	}
	for _, steps := range []int{0, 10, -1} {
		res, f := model.Run(l, steps)
		if want == api.OK && steps < 0 {
			continue
		}
		if f != (api.Fault{Err: want, At: at}) {
			t.Errorf("Run is %v, not %v at %d", f, want, at)
		}
		if want != api.OK && !reflect.DeepEqual(res, api.Result{}) {
			t.Errorf("beside %v stands %v", f, res)
		}
	}
}

// wrongCore: that is what is wrong with c, wherever it stands.
func wrongCore(t *testing.T, c api.Core, want api.Errno) {
	t.Helper()
	at := 0
	if want != api.OK {
		at = 1
	}
	wrong(t, alone(c), want, 0)
	wrong(t, []api.Part{part(num(1)), part(num(1), c, num(2)), part()}, want, at)
	wrong(t, []api.Part{part(), part(seq(num(1), c))}, want, at)
	wrong(t, []api.Part{part(), part(call(prim("out"), choose(boolean(1), num(2), c)))}, want, at)
}

func right(t *testing.T, c api.Core) {
	t.Helper()
	wrongCore(t, c, api.OK)
}

func run(l []api.Part) (api.Result, api.Fault) {
	return model.Run(l, api.MaxSteps)
}
