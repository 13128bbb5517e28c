package code_test

import (
	"math/rand"
	"reflect"
	"strconv"
	"strings"
	"testing"

	"graftwood/api"
	"graftwood/code"
	"graftwood/model"
)

// listing is code another way: lines of text, with marks where jumps go, that are told places in the end.
type listing struct {
	procedures [][]string
	args       []int
	marks      int
}

// listed is the code of p as shown tells it; what it is like is of no matter, if ok is false.
func listed(p api.Part) (s string, ok bool) {
	l := listing{procedures: [][]string{nil}, args: []int{0}}
	for _, c := range p.Body {
		l.procedures[0] = append(append(l.procedures[0], l.lines(c)...), "pop")
	}
	var out []string
	ok = len(l.procedures) <= api.MaxProtos
	for i, lines := range l.procedures {
		lines, places := settled(append(lines, "ret"))
		ok = ok && len(lines) <= api.MaxCode
		for j, s := range lines {
			if jump, mark, is := strings.Cut(s, "~"); is {
				lines[j] = jump + strconv.Itoa(places[mark])
			}
		}
		out = append(out, strconv.Itoa(l.args[i])+": "+strings.Join(lines, " "))
	}
	return strings.Join(out, " | "), ok
}

// settled is lines without their marks, and where these stood.
func settled(lines []string) ([]string, map[string]int) {
	var out []string
	places := map[string]int{}
	for _, s := range lines {
		if mark, is := strings.CutSuffix(s, ":"); is {
			places[mark] = len(out)
		} else {
			out = append(out, s)
		}
	}
	return out, places
}

func (l *listing) mark() string {
	l.marks++
	return "mark" + strconv.Itoa(l.marks)
}

func (l *listing) lines(c api.Core) []string {
	if c.Kind == api.CLambda {
		n := len(l.procedures)
		l.procedures, l.args = append(l.procedures, nil), append(l.args, c.Index)
		l.procedures[n] = l.lines(c.Kids[0])
		return []string{"fn" + strconv.Itoa(n)}
	}
	var kids [][]string
	var all []string
	for _, k := range c.Kids {
		kids = append(kids, l.lines(k))
		all = append(all, kids[len(kids)-1]...)
	}
	n, i, g := strconv.FormatInt(c.N, 10), strconv.Itoa(c.Index), c.Lib+"."+c.Own
	switch c.Kind {
	case api.CIf:
		other, end := l.mark(), l.mark()
		out := append(kids[0], "unless~"+other)
		out = append(append(out, kids[1]...), "to~"+end, other+":")
		return append(append(out, kids[2]...), end+":")
	case api.CSeq:
		var out []string
		for i := len(kids) - 1; i >= 0; i-- {
			if out != nil {
				out = append([]string{"pop"}, out...)
			}
			out = append(kids[i], out...)
		}
		return out
	}
	names := [...]string{api.CNum: n, api.CBool: "#" + n, api.CQuote: "'" + datum(c.Quote), api.CLocal: "@" + i, api.CGlobal: g, api.CPrim: c.Own,
		api.CCall: "call" + strconv.Itoa(len(c.Kids)-1), api.CSetLocal: "set@" + i, api.CSetGlobal: "set:" + g, api.CDefine: "def:" + g}
	return append(all, names[c.Kind])
}

// chance makes expressions, few of which are wrong.
type chance struct {
	*rand.Rand
	odd int // one of so many is odd
}

func (c chance) kids(n, around, deep int) []api.Core {
	var out []api.Core
	for range n {
		out = append(out, c.core(around, deep-1))
	}
	return out
}

func (c chance) core(around, deep int) api.Core {
	kind := 4 + c.Intn(10)
	if deep <= 0 {
		kind = 1 + c.Intn(6)
	}
	if kind == api.CLocal || kind == api.CSetLocal {
		if around == 0 && c.Intn(c.odd) > 0 {
			return num(c.Int63n(100))
		}
	}
	out := api.Core{Kind: kind}
	switch kind {
	case api.CNum:
		out.N = c.Int63n(1000) - 500
	case api.CBool:
		out.N = c.Int63n(2)
	case api.CQuote:
		out.Quote = []api.Datum{sym("a"), list(), list(sym("b"), list(sym("c"))), {Kind: api.DBool, N: 1}}[c.Intn(4)]
	case api.CLocal, api.CSetLocal:
		out.Index = c.Intn(max(around, 1))
	case api.CGlobal, api.CSetGlobal, api.CDefine:
		out.Lib, out.Own = []string{"m", "a b", ""}[c.Intn(3)], []string{"x", "y"}[c.Intn(2)]
	case api.CPrim:
		out.Own = []string{"car", "+", "out"}[c.Intn(3)]
	case api.CLambda:
		out.Index = c.Intn(4)
	}
	n := map[int]int{api.CIf: 3, api.CLambda: 1, api.CSetLocal: 1, api.CSetGlobal: 1, api.CDefine: 1, api.CCall: 1 + c.Intn(4), api.CSeq: 1 + c.Intn(4)}[kind]
	if c.Intn(c.odd) == 0 {
		n++
	}
	out.Kids = c.kids(n, around+parameters(out), deep)
	return out
}

// H1, H2: as another way of doing it.
func TestH1H2AsOther(t *testing.T) {
	r := rand.New(rand.NewSource(8))
	met := map[api.Errno]int{}
	for n := range 6000 {
		c := chance{r, 1000}
		p := api.Part{Name: strconv.Itoa(n)}
		deep, most := 1+r.Intn(7), 1+r.Intn(6)
		if n%40 == 0 {
			deep, most = 9+r.Intn(9), api.MaxBody
			c.odd = 1000000
		}
		for range most {
			p.Body = append(p.Body, c.core(0, deep))
		}
		want, err := "", model.Wrong([]api.Part{p}).Err
		if err == api.OK {
			var ok bool
			if want, ok = listed(p); !ok {
				want, err = "", api.ErrMuch
			}
		}
		u, got := code.Compile(p)
		if got != err || shown(u) != want {
			t.Fatalf("part %d: %v, %.1000s, not %v, %.1000s", n, got, shown(u), err, want)
		}
		if err != api.OK && !reflect.DeepEqual(u, api.Unit{}) {
			t.Fatalf("part %d: %v stands beside %v", n, u, err)
		}
		met[err]++
	}
	for _, err := range []api.Errno{api.OK, api.ErrMuch, api.ErrMany, api.ErrRange} {
		if met[err] < 10 {
			t.Errorf("%v comes %d times", err, met[err])
		}
	}
}

// parameters is how many more are around kids of c.
func parameters(c api.Core) int {
	if c.Kind == api.CLambda {
		return c.Index
	}
	return 0
}
