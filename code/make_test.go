package code_test

import (
	"reflect"
	"slices"
	"strconv"
	"strings"
	"testing"

	"graftwood/api"
	"graftwood/code"
	"graftwood/expand"
	"graftwood/text"
)

func num(n int64) api.Core     { return api.Core{Kind: api.CNum, N: n} }
func boolean(n int64) api.Core { return api.Core{Kind: api.CBool, N: n} }
func prim(s string) api.Core   { return api.Core{Kind: api.CPrim, Own: s} }
func local(i int) api.Core     { return api.Core{Kind: api.CLocal, Index: i} }
func quote(d api.Datum) api.Core {
	return api.Core{Kind: api.CQuote, Quote: d}
}
func lambda(n int, body api.Core) api.Core {
	return api.Core{Kind: api.CLambda, Index: n, Kids: []api.Core{body}}
}
func setLocal(i int, c api.Core) api.Core {
	return api.Core{Kind: api.CSetLocal, Index: i, Kids: []api.Core{c}}
}
func global(own string) api.Core { return api.Core{Kind: api.CGlobal, Lib: "m", Own: own} }
func setGlobal(own string, c api.Core) api.Core {
	return api.Core{Kind: api.CSetGlobal, Lib: "m", Own: own, Kids: []api.Core{c}}
}
func define(own string, c api.Core) api.Core {
	return api.Core{Kind: api.CDefine, Lib: "m", Own: own, Kids: []api.Core{c}}
}
func call(l ...api.Core) api.Core { return api.Core{Kind: api.CCall, Kids: l} }
func seq(l ...api.Core) api.Core  { return api.Core{Kind: api.CSeq, Kids: l} }
func choose(a, b, c api.Core) api.Core {
	return api.Core{Kind: api.CIf, Kids: []api.Core{a, b, c}}
}

func sym(s string) api.Datum             { return api.Datum{Kind: api.DSym, Name: s} }
func list(l ...api.Datum) api.Datum      { return api.Datum{Kind: api.DList, Kids: l} }
func part(l ...api.Core) api.Part        { return api.Part{Name: "m", Body: l} }
func times(n int, c api.Core) []api.Core { return slices.Repeat([]api.Core{c}, n) }

// cores is the forms of s on the top of library m, expanded.
func cores(t *testing.T, s string) []api.Core {
	t.Helper()
	m := api.Top{Name: "m"}
	for _, s := range append(expand.Specials(), expand.Prims()...) {
		m.Binds = append(m.Binds, api.Bind{Here: s, Lib: "base", Own: s})
	}
	for _, s := range strings.Fields("x y f g") {
		m.Binds = append(m.Binds, api.Bind{Here: s, Lib: "m", Own: s})
	}
	l, f := text.Read(s)
	if f.Err != api.OK {
		t.Fatalf("%.200q: %v", s, f)
	}
	var out []api.Core
	for _, d := range l {
		c, err := expand.Expand(api.Scope{Tops: []api.Top{m}}, 0, d)
		if err != api.OK {
			t.Fatalf("%.200q: %v", s, err)
		}
		out = append(out, c)
	}
	return out
}

// shown is a unit as a text: its procedures, each with how many it takes ahead of its code. Whatever an instruction has not, by its kind, is shown, too.
func shown(u api.Unit) string {
	var out []string
	for _, p := range u.Protos {
		l := []string{strconv.Itoa(p.Args) + ":"}
		for _, in := range p.Code {
			l = append(l, instruction(in))
		}
		out = append(out, strings.Join(l, " "))
	}
	return strings.Join(out, " | ")
}

func instruction(in api.Ins) string {
	var s string
	rest := in
	rest.Op = 0
	a, n, g := strconv.Itoa(in.A), strconv.FormatInt(in.N, 10), in.Lib+"."+in.Own
	switch in.Op {
	case api.INum:
		s, rest.N = n, 0
	case api.IBool:
		s, rest.N = "#"+n, 0
	case api.IQuote:
		s, rest.Quote = "'"+datum(in.Quote), api.Datum{}
	case api.ILocal:
		s, rest.A = "@"+a, 0
	case api.IGlobal:
		s, rest.Lib, rest.Own = g, "", ""
	case api.IPrim:
		s, rest.Own = in.Own, ""
	case api.IClosure, api.ICall, api.IJump, api.IUnless, api.ISetLocal:
		s, rest.A = map[int]string{api.IClosure: "fn", api.ICall: "call", api.IJump: "to", api.IUnless: "unless", api.ISetLocal: "set@"}[in.Op]+a, 0
	case api.ISetGlobal:
		s, rest.Lib, rest.Own = "set:"+g, "", ""
	case api.IDefine:
		s, rest.Lib, rest.Own = "def:"+g, "", ""
	case api.IPop:
		s = "pop"
	case api.IReturn:
		s = "ret"
	default:
		s = "?" + strconv.Itoa(in.Op)
	}
	if !reflect.DeepEqual(rest, api.Ins{}) {
		s += "!"
	}
	return s
}

func datum(d api.Datum) string {
	var s string
	rest := d
	rest.Kind, rest.Kids = 0, nil
	switch d.Kind {
	case api.DNum:
		s, rest.N = strconv.FormatInt(d.N, 10), 0
	case api.DBool:
		s, rest.N = "#"+strconv.FormatInt(d.N, 10), 0
	case api.DSym:
		s, rest.Name = d.Name, ""
	case api.DList:
		var l []string
		for _, k := range d.Kids {
			l = append(l, datum(k))
		}
		s = "(" + strings.Join(l, ",") + ")"
	}
	if d.Kind != api.DList && len(d.Kids) > 0 || !reflect.DeepEqual(rest, api.Datum{}) {
		s += "!"
	}
	return s
}

// makes: the code of p is that.
func makes(t *testing.T, p api.Part, want string) {
	t.Helper()
	u, err := code.Compile(p)
	if err != api.OK || u.Name != p.Name {
		t.Errorf("Compile of %q: %q, %v", p.Name, u.Name, err)
	}
	if got := shown(u); got != want {
		t.Errorf("%.300s comes, not %.300s", got, want)
	}
}

// gives: the code of an expression alone is that, ahead of the IPop; rest is the other procedures.
func gives(t *testing.T, c api.Core, want, rest string) {
	t.Helper()
	makes(t, part(c), "0: "+want+" pop ret"+rest)
}

// fails: nothing stands beside the error.
func fails(t *testing.T, p api.Part, want api.Errno) {
	t.Helper()
	u, err := code.Compile(p)
	if err != want || u.Name != "" || u.Protos != nil {
		t.Errorf("Compile: %d procedures of %q, %v, not %v", len(u.Protos), u.Name, err, want)
	}
}
