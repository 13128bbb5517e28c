package expand_test

import (
	"fmt"
	"math/rand"
	"strings"
	"testing"

	"graftwood/api"
	"graftwood/expand"
	"graftwood/macro"
)

// other answers as chapter 6 says, for Expand to be held against: it makes texts, keeps the first error, and makes nothing any more behind it.
type other struct {
	s           api.Scope
	which       int
	uses, nodes int
	err         api.Errno
}

// ring is a parameter, and those around it.
type ring struct {
	of  api.Datum
	out *ring
}

// made is a core expression as a text, and how deep it is nested.
type made struct {
	text string
	deep int
}

func otherExpand(s api.Scope, which int, d api.Datum) (string, api.Errno) {
	if which < 0 || which > len(s.Tops)-1 {
		return "", api.ErrRange
	}
	if n, deep := measure(d); n > api.MaxNodes || deep > api.MaxDeep {
		return "", api.ErrMuch
	}
	o := &other{s: s, which: which}
	m := o.top(d)
	if o.err == api.OK && m.deep > api.MaxNest {
		o.err = api.ErrMuch
	}
	if o.err != api.OK {
		return "", o.err
	}
	return m.text, api.OK
}

func measure(d api.Datum) (n, deep int) {
	if d.Kind == api.DList {
		for _, k := range d.Kids {
			kn, kd := measure(k)
			n, deep = n+kn, max(deep, kd)
		}
	}
	return n + 1, deep + 1
}

// wrong keeps err, if something is wrong, and it is the first thing; it tells whether anything is.
func (o *other) wrong(is bool, err api.Errno) bool {
	if is && o.err == api.OK {
		o.err = err
	}
	return o.err != api.OK
}

func (o *other) count() bool {
	o.nodes++
	return o.wrong(o.nodes > api.MaxCore, api.ErrMuch)
}

// meant is what d stands for: "param", "special", "prim", "macro", "global", or nothing.
func (o *other) meant(d api.Datum, r *ring) (kind string, n int, b api.Bind) {
	for ; r != nil; r = r.out {
		if r.of.Name == d.Name && r.of.Stamp == d.Stamp {
			return "param", n, b
		}
		n++
	}
	at := map[bool]int{true: o.which, false: d.Lib}[d.Stamp == 0]
	if o.wrong(at < 0 || at >= len(o.s.Tops), api.ErrName) {
		return
	}
	found := false
	for i := len(o.s.Tops[at].Binds) - 1; i >= 0; i-- {
		if c := o.s.Tops[at].Binds[i]; c.Here == d.Name {
			b, found = c, true
		}
	}
	if o.wrong(!found, api.ErrName) {
		return
	}
	kind = "global"
	for i := len(o.s.Macros) - 1; i >= 0; i-- {
		if m := o.s.Macros[i]; m.Lib == b.Lib && m.Own == b.Own {
			kind, n = "macro", i
		}
	}
	if b.Lib != "base" {
		return
	}
	switch own := " " + b.Own + " "; {
	case strings.Contains(" begin define define-syntax if lambda let quote set! ", own):
		kind = "special"
	case strings.Contains(" * + - < = car cdr cons eq? not null? out pair? ", own):
		kind = "prim"
	default:
		o.wrong(true, api.ErrName)
	}
	return
}

func (o *other) top(d api.Datum) made {
	if d.Kind != api.DList || len(d.Kids) == 0 || d.Kids[0].Kind != api.DSym {
		return o.expr(d, nil)
	}
	kind, _, b := o.meant(d.Kids[0], nil)
	if kind != "special" || b.Own != "define" {
		return o.expr(d, nil)
	}
	l := d.Kids[1:]
	if o.wrong(len(l) < 2, api.ErrForm) {
		return made{}
	}
	name, proc := l[0], l[0].Kind == api.DList && len(l[0].Kids) > 0
	if proc {
		name = l[0].Kids[0]
	}
	if o.wrong(name.Kind != api.DSym || !proc && len(l) != 2, api.ErrForm) {
		return made{}
	}
	kind, _, b = o.meant(name, nil)
	if o.wrong(kind == "macro" || b.Lib != o.s.Tops[o.which].Name, api.ErrSet) || o.count() {
		return made{}
	}
	head := "(def " + b.Lib + "." + b.Own
	if proc {
		return wrapped(head, o.proc(l[0].Kids[1:], l[1:], nil))
	}
	return wrapped(head, o.expr(l[1], nil))
}

func wrapped(head string, kids ...made) made {
	out := made{text: head}
	for _, k := range kids {
		out.text += " " + k.text
		out.deep = max(out.deep, k.deep)
	}
	return made{out.text + ")", out.deep + 1}
}

func (o *other) all(head string, l []api.Datum, r *ring) made {
	if o.count() {
		return made{}
	}
	var kids []made
	for _, d := range l {
		kids = append(kids, o.expr(d, r))
	}
	return wrapped(head, kids...)
}

func (o *other) body(l []api.Datum, r *ring) made {
	if o.wrong(len(l) == 0, api.ErrForm) {
		return made{}
	}
	return o.all("(seq", l, r)
}

func (o *other) proc(params, body []api.Datum, r *ring) made {
	for i, p := range params {
		o.wrong(p.Kind != api.DSym, api.ErrForm)
		for _, q := range params[:i] {
			o.wrong(q.Name == p.Name && q.Stamp == p.Stamp, api.ErrName)
		}
		r = &ring{p, r}
	}
	if o.err != api.OK || o.count() {
		return made{}
	}
	return wrapped(fmt.Sprint("(fn", len(params)), o.body(body, r))
}

func (o *other) expr(d api.Datum, r *ring) made {
	if o.err != api.OK {
		return made{}
	}
	switch {
	case d.Kind == api.DNum || d.Kind == api.DBool:
		o.count()
		return made{map[int]string{api.DNum: "", api.DBool: "#"}[d.Kind] + fmt.Sprint(d.N), 1}
	case d.Kind == api.DSym:
		kind, n, b := o.meant(d, r)
		if o.wrong(kind == "special" || kind == "macro", api.ErrForm) || o.count() {
			return made{}
		}
		return made{map[string]string{"param": fmt.Sprint("@", n), "prim": b.Own, "global": b.Lib + "." + b.Own}[kind], 1}
	case o.wrong(d.Kind != api.DList || len(d.Kids) == 0, api.ErrForm):
		return made{}
	case d.Kids[0].Kind != api.DSym:
		return o.all("(call", d.Kids, r)
	}
	kind, n, b := o.meant(d.Kids[0], r)
	switch kind {
	case "special":
		return o.special(b.Own, d.Kids[1:], r)
	case "macro":
		return o.use(d, n, r)
	case "":
		return made{}
	}
	return o.all("(call", d.Kids, r)
}

func (o *other) use(d api.Datum, n int, r *ring) made {
	if o.uses++; o.wrong(o.uses > api.MaxUses, api.ErrSteps) {
		return made{}
	}
	home := -1
	for i := len(o.s.Tops) - 1; i >= 0; i-- {
		if o.s.Tops[i].Name == o.s.Macros[n].Lib {
			home = i
		}
	}
	out, err := macro.Use(o.s.Macros[n].Macro, d, o.uses, home)
	o.wrong(err != api.OK, err)
	return o.expr(out, r)
}

func (o *other) special(word string, l []api.Datum, r *ring) made {
	var first api.Datum
	if len(l) > 0 {
		first = l[0]
	}
	shape := map[string]bool{"quote": len(l) == 1, "if": len(l) == 3, "begin": len(l) > 0, "lambda": first.Kind == api.DList, "let": first.Kind == api.DList, "set!": len(l) == 2 && first.Kind == api.DSym}
	if o.wrong(!shape[word], api.ErrForm) {
		return made{}
	}
	switch word {
	case "quote":
		o.count()
		return made{"'" + shownDatum(unstamped(first)), 1}
	case "if":
		return o.all("(if", l, r)
	case "begin":
		return o.body(l, r)
	case "lambda":
		return o.proc(first.Kids, l[1:], r)
	case "let":
		return o.let(first.Kids, l[1:], r)
	}
	kind, n, b := o.meant(first, r)
	o.wrong(kind == "special" || kind == "macro", api.ErrForm)
	if kind == "param" {
		return o.all(fmt.Sprint("(set @", n), l[1:], r)
	}
	o.wrong(b.Lib != o.s.Tops[o.which].Name, api.ErrSet)
	if o.err != api.OK {
		return made{}
	}
	return o.all("(set "+b.Lib+"."+b.Own, l[1:], r)
}

func (o *other) let(pairs, body []api.Datum, r *ring) made {
	var names []api.Datum
	for _, p := range pairs {
		if o.wrong(p.Kind != api.DList || len(p.Kids) != 2, api.ErrForm) {
			return made{}
		}
		names = append(names, p.Kids[0])
	}
	if o.count() {
		return made{}
	}
	kids := []made{o.proc(names, body, r)}
	for _, p := range pairs {
		kids = append(kids, o.expr(p.Kids[1], r))
	}
	return wrapped("(call", kids...)
}

func unstamped(d api.Datum) api.Datum {
	d.Stamp, d.Lib = 0, 0
	var kids []api.Datum
	for _, k := range d.Kids {
		kids = append(kids, unstamped(k))
	}
	d.Kids = kids
	return d
}

// chance makes forms, most of which are right.
type chance struct {
	*rand.Rand
	odd int // one of so many things is odd
}

func (c chance) of(words string) api.Datum {
	l := strings.Fields(words)
	return sym(l[c.Intn(len(l))])
}

func (c chance) word() api.Datum {
	d := c.of("a a b b c c t tmp x x f f y mx car + swap or2 id if zz let wenn lambda odd")
	if c.Intn(12) == 0 {
		d.Stamp, d.Lib = c.Intn(4)-1, c.Intn(5)-1
	}
	return d
}

func (c chance) odds() api.Datum {
	switch c.Intn(8) {
	case 0:
		return list()
	case 1:
		return api.Datum{Kind: c.Intn(7), N: c.Int63n(3), Name: "a"}
	case 2:
		return c.of("if let swap zz car set! define")
	}
	return c.form(1)
}

func (c chance) params() []api.Datum {
	var l []api.Datum
	for _, s := range []string{"a", "b", "c", "t", "tmp", "if", "x"} {
		if c.Intn(3) == 0 {
			l = append(l, sym(s))
		}
	}
	if c.Intn(c.odd) == 0 {
		l = append(l, c.word())
	}
	return l
}

func (c chance) forms(least, deep int) []api.Datum {
	var l []api.Datum
	for range least + c.Intn(3) {
		l = append(l, c.form(deep))
	}
	return l
}

func (c chance) form(deep int) api.Datum {
	if deep == 0 || c.Intn(5) == 0 {
		return []api.Datum{num(c.Int63n(9)), {Kind: api.DBool, N: c.Int63n(2)}, c.word(), c.of("a b c t tmp x f"), c.of("a b c")}[c.Intn(5)]
	}
	d := c.right(deep - 1)
	for c.Intn(c.odd) == 0 {
		at := c.Intn(len(d.Kids) + 1)
		switch c.Intn(3) {
		case 0:
			d.Kids = append(d.Kids[:at:at], d.Kids[min(at+1, len(d.Kids)):]...)
		case 1:
			d.Kids = append(append(d.Kids[:at:at], c.odds()), d.Kids[at:]...)
		case 2:
			d.Kids = append(append(d.Kids[:at:at], c.odds()), d.Kids[min(at+1, len(d.Kids)):]...)
		}
	}
	return d
}

func (c chance) right(deep int) api.Datum {
	head := func(word string, l ...[]api.Datum) api.Datum {
		d := list(sym(word))
		for _, m := range l {
			d.Kids = append(d.Kids, m...)
		}
		return d
	}
	one := func(d api.Datum) []api.Datum { return []api.Datum{d} }
	e := func() []api.Datum { return one(c.form(deep)) }
	switch c.Intn(14) {
	case 0:
		return head("if", e(), e(), e())
	case 1:
		return head("begin", c.forms(1, deep))
	case 2, 3:
		return head("lambda", one(list(c.params()...)), c.forms(1, deep))
	case 4, 5:
		pairs := list()
		for _, p := range c.params() {
			pairs.Kids = append(pairs.Kids, list(p, c.form(deep)))
		}
		return head("let", one(pairs), c.forms(1, deep))
	case 6:
		return head("set!", one(c.of("a b c t tmp x y")), e())
	case 7:
		return head("quote", e())
	case 8:
		return head("swap", one(c.of("a b c t tmp x")), one(c.of("a b c t tmp x")))
	case 9:
		return head("or2", c.forms(0, deep))
	case 10:
		return head([]string{"id", "twice", "wenn", "loop"}[c.Intn(40)/13], e())
	case 11:
		return head([]string{"bind", "bound", "fn"}[c.Intn(3)], one(c.of("a b c t tmp if")), e(), e())
	case 12:
		return head("x-of")
	}
	return list(append([]api.Datum{c.word()}, c.forms(0, deep)...)...)
}

// wide has further macros of both libraries, ones that use each other's among them.
func wide(t *testing.T) api.Scope {
	t.Helper()
	s := scope(t)
	s.Macros = append(s.Macros,
		def(t, "m", "twice", "(_ e)", "(begin e e)"),
		def(t, "m", "bind", "(_ a e b)", "(let ((a e) (t b)) (f a t b))"),
		def(t, "n", "bound", "(_ a e b)", "(bind a (or b x y) (lambda (a t) b e t))"),
		def(t, "q", "fn", "(_ a e b)", "(lambda (a) e b)", "(_ a r ...)", "(let ((a r) ...) x)"))
	more := top("", "twice=m.twice bind=m.bind bound=n.bound fn=q.fn").Binds[21:]
	for i := range s.Tops {
		s.Tops[i].Binds = append(s.Tops[i].Binds, more...)
	}
	return s
}

// within is a form around which parameters are, most often.
func (c chance) within(l ...api.Datum) api.Datum {
	params := list(sym("a"), sym("b"), sym("c"), sym("t"), sym("tmp"))
	if c.Intn(4) == 0 {
		params.Kids = c.params()
	}
	return list(append([]api.Datum{sym("lambda"), params}, l...)...)
}

func (c chance) onTop() api.Datum {
	name := c.of("x x f f y y car swap zz")
	switch c.Intn(8) {
	case 0:
		return c.form(4)
	case 1:
		return list(sym("define"), name, c.within(c.form(3)))
	case 2:
		return list(append([]api.Datum{sym("define"), list(append([]api.Datum{name}, c.params()...)...)}, c.forms(0, 3)...)...)
	case 3:
		d := c.form(2)
		for range 5 + c.Intn(8) {
			d = list(sym("twice"), d)
		}
		return c.within(d, c.form(2))
	}
	return c.within(c.forms(1, 4)...)
}

func TestF6AsOther(t *testing.T) {
	s := wide(t)
	met := map[api.Errno]int{}
	for _, odd := range []int{15, 60, 1 << 30} {
		c := chance{rand.New(rand.NewSource(int64(odd))), odd}
		for range 6000 {
			met[asOther(t, s, c.Intn(2), c.onTop())]++
		}
	}
	for _, e := range []api.Errno{api.OK, api.ErrForm, api.ErrMuch, api.ErrNone, api.ErrName, api.ErrSet, api.ErrSteps} {
		if met[e] < 50 {
			t.Errorf("%v came %d times", e, met[e])
		}
	}
}

func asOther(t *testing.T, s api.Scope, which int, d api.Datum) api.Errno {
	t.Helper()
	c, err := expand.Expand(s, which, d)
	want, werr := otherExpand(s, which, d)
	got := ""
	if err == api.OK {
		got = shown(t, c)
	}
	if err != werr || got != want {
		t.Fatalf("%s in %d is %s %v, not %s %v", shownDatum(d), which, got, err, want, werr)
	}
	return err
}

// What a parameter is called is nobody's concern: macros that have parameters of the same name make no difference.
func TestF2Renamed(t *testing.T) {
	s := wide(t)
	c := chance{rand.New(rand.NewSource(5)), 1 << 30}
	as := map[string]string{"a": "tmp", "b": "t", "c": "e", "t": "a", "tmp": "q"}
	var renamed func(api.Datum) api.Datum
	renamed = func(d api.Datum) api.Datum {
		if to, ok := as[d.Name]; ok && d.Kind == api.DSym && d.Stamp == 0 {
			d.Name = to
		}
		var kids []api.Datum
		for _, k := range d.Kids {
			kids = append(kids, renamed(k))
		}
		d.Kids = kids
		return d
	}
	var params []api.Datum
	for _, s := range []string{"a", "b", "c", "t", "tmp"} {
		params = append(params, sym(s))
	}
	right := 0
	for range 10000 {
		d := list(sym("lambda"), list(params...), c.form(3))
		one, err := expand.Expand(s, 0, d)
		two, err2 := expand.Expand(s, 0, renamed(d))
		if err != err2 {
			t.Fatalf("%s is %v, and renamed %v", shownDatum(d), err, err2)
		}
		if err != api.OK || hasQuote(one) {
			continue
		}
		right++
		if a, b := shown(t, one), shown(t, two); a != b {
			t.Fatalf("%s is %s, and renamed %s", shownDatum(d), a, b)
		}
	}
	if right < 2000 {
		t.Errorf("only %d forms were right", right)
	}
}

func hasQuote(c api.Core) bool {
	for _, k := range c.Kids {
		if hasQuote(k) {
			return true
		}
	}
	return c.Kind == api.CQuote
}
