package build_test

import (
	"fmt"
	"math/rand"
	"slices"
	"strings"
	"testing"

	"graftwood/api"
	"graftwood/build"
	"graftwood/machine"
	"graftwood/model"
)

// chance makes projects, and others of them.
type chance struct{ *rand.Rand }

// draft is a project that can be changed.
type draft struct {
	libs     []draftLib // the last one is the program
	order    []int      // of the sources
	features []string
	file     string
	stray    string // a source of no library, if it is not empty
}

// draftLib defines x, y, f and m with its number behind them: f is a procedure, m a macro, of one argument each.
type draftLib struct {
	name    string
	exports []string
	sets    []string
	forms   []string
	has     []string // names that it may speak of
}

func (c chance) some(l ...string) string {
	if len(l) == 0 {
		return "1"
	}
	return l[c.Intn(len(l))]
}

func (c chance) project() *draft {
	d := &draft{file: "(out 'file)"}
	n := 1 + c.Intn(5)
	for i := range n {
		d.libs = append(d.libs, c.library(d, i, i == n-1))
	}
	d.order = c.Perm(n)
	return d
}

func (c chance) library(d *draft, i int, last bool) draftLib {
	l := draftLib{sets: []string{"(base)"}}
	if !last {
		l.name = []string{"d", "b c", "a", "b", "e"}[i]
	}
	for j := range i {
		if c.Intn(2) == 0 {
			l.bring(c, &d.libs[j])
		}
	}
	own := []string{fmt.Sprint("x", i), fmt.Sprint("f", i), fmt.Sprint("m", i), fmt.Sprint("y", i)}[:2+c.Intn(3)]
	for _, name := range own {
		l.forms = append(l.forms, c.definition(&l, name))
		l.has = append(l.has, name) // a definition seldom speaks of what stands behind it
	}
	for range c.Intn(3) {
		l.forms = append(l.forms, c.form(&l))
	}
	if !last {
		for _, name := range l.has {
			if c.Intn(3) > 0 {
				l.exports = append(l.exports, name)
			}
		}
	}
	return l
}

// bring takes a set of what from brings out.
func (l *draftLib) bring(c chance, from *draftLib) {
	set := "(" + from.name + ")"
	brought := from.exports
	switch c.Intn(5) {
	case 0:
		if len(brought) > 0 {
			brought = brought[:1]
			set = "(only " + set + " " + brought[0] + ")"
		}
	case 1:
		if len(brought) > 0 {
			set = "(except " + set + " " + brought[0] + ")"
			brought = brought[1:]
		}
	case 2:
		p := c.some("p", "q")
		set = "(prefix " + set + " " + p + ")"
		brought = slices.Clone(brought)
		for i, s := range brought {
			brought[i] = p + s
		}
	}
	l.sets = append(l.sets, set)
	for _, s := range brought {
		if !slices.Contains(l.has, s) {
			l.has = append(l.has, s)
		}
	}
}

func (c chance) definition(l *draftLib, name string) string {
	switch name[0] {
	case 'f':
		return "(define (" + name + " a) " + c.expr(l, "a", 2) + ")"
	case 'm':
		return "(define-syntax " + name + " (syntax-rules () ((_ e) " + c.some("e", "(cons e "+c.expr(l, "e", 1)+")", "(let ((t e)) (cons t "+c.expr(l, "t", 1)+"))") + ")))"
	}
	return "(define " + name + " " + c.expr(l, "1", 2) + ")"
}

func (c chance) form(l *draftLib) string {
	if c.Intn(40) == 0 {
		return "(set! " + c.some(l.has...) + " 5)"
	}
	switch c.Intn(8) {
	case 0:
		return "(let ((" + c.some("x0", "t", "if") + " 2)) (cons 3 " + c.expr(l, "4", 2) + "))"
	case 1:
		return c.expr(l, "3", 3)
	}
	return "(out " + c.expr(l, "4", 3) + ")"
}

// expr is an expression, in which there may be what a name that is around stands for.
func (c chance) expr(l *draftLib, around string, deep int) string {
	if deep == 0 {
		return c.some(around, fmt.Sprint(c.Intn(9)), "'s", "'(1 (t))")
	}
	e := func() string { return c.expr(l, around, deep-1) }
	name := c.some(l.has...)
	if kind := strings.TrimLeft(name, "pq")[0]; (kind == 'f' || kind == 'm') && c.Intn(60) > 0 {
		return "(" + name + " " + e() + ")"
	}
	switch c.Intn(7) {
	case 0, 1:
		return name
	case 2:
		return "(cons " + e() + " " + e() + ")"
	case 3:
		return "(if " + e() + " " + e() + " " + e() + ")"
	case 4:
		return "(let ((t " + e() + ")) (cons t " + c.expr(l, "t", deep-1) + "))"
	case 5:
		return "((lambda (" + c.some("x0", "t", "cons", "a") + ") " + c.expr(l, around, 0) + ") " + e() + ")"
	}
	return "(eq? " + e() + " " + e() + ")"
}

func (d *draft) copied() *draft {
	out := *d
	out.order, out.libs = slices.Clone(d.order), slices.Clone(d.libs)
	for i := range out.libs {
		l := &out.libs[i]
		l.exports, l.sets, l.forms, l.has = slices.Clone(l.exports), slices.Clone(l.sets), slices.Clone(l.forms), slices.Clone(l.has)
	}
	return &out
}

// altered is d with something else in it.
func (c chance) altered(d *draft) *draft {
	d = d.copied()
	l := &d.libs[c.Intn(len(d.libs))]
	switch c.Intn(18) {
	case 0, 1, 2, 3:
		at := c.Intn(len(l.forms))
		if word := strings.FieldsFunc(l.forms[at], func(r rune) bool { return r == ' ' || r == '(' || r == ')' }); strings.HasPrefix(word[0], "define") {
			l.forms[at] = c.definition(l, word[1])
		} else {
			l.forms[at] = c.form(l)
		}
	case 4:
		i, j := c.Intn(len(l.forms)), c.Intn(len(l.forms))
		l.forms[i], l.forms[j] = l.forms[j], l.forms[i]
	case 5:
		l.forms = append(l.forms, c.form(l))
	case 6:
		l.forms = append(l.forms, c.some("(define z 1)", "(define-syntax z (syntax-rules () ((_) (out 5))))"))
	case 7:
		if l.name != "" {
			l.exports = append(l.exports, c.some(l.has...))
		}
	case 8:
		c.Shuffle(len(l.exports), func(i, j int) { l.exports[i], l.exports[j] = l.exports[j], l.exports[i] })
	case 9:
		if len(l.exports) > 0 {
			l.exports = l.exports[1:]
		}
	case 10:
		l.bring(c, &d.libs[c.Intn(len(d.libs))])
	case 11:
		if len(l.sets) > 1 {
			at := 1 + c.Intn(len(l.sets)-1)
			l.sets = slices.Delete(l.sets, at, at+1)
		}
	case 12:
		d.order = c.Perm(len(d.libs))
	case 13:
		d.features = []string{c.some("fast", "slow")}
	case 14:
		d.file = c.some("(out 'file)", "(out 'other)", "1 2", "(oops")
	case 15, 17:
		d.stray = c.some("", "", "", "(oops", "5", "1 2", "(library (a) (import (base)))", "(library (z) (import (zz)))", "(library (z) (begin zz))", "(program)")
	case 16:
		l.forms = append(l.forms, c.some("(define car 5)", "(define-syntax z 5)", "(if)", "(define (z) zz)", "zz", "(define z)", "(define-syntax z (syntax-rules () ((_) (z)))) (out (z))"))
	}
	return d
}

func (d *draft) text(l *draftLib) string {
	out := "(program "
	if l.name != "" {
		out = "(library (" + l.name + ") (export " + strings.Join(l.exports, " ") + ") "
	}
	return out + "(import " + strings.Join(l.sets, " ") + ") (cond-expand (fast (include file)) ((library (z)) (begin 7))) (begin " + strings.Join(l.forms, " ") + "))"
}

func (d *draft) project() api.Project {
	var l []string
	for _, i := range d.order {
		l = append(l, d.text(&d.libs[i]))
	}
	if d.stray != "" {
		l = append(l, d.stray)
	}
	p := with(sources(l...), "file", d.file)
	p.Features = d.features
	return p
}

// line is projects, each mostly made of the one ahead, or as an earlier one.
func (c chance) line() []api.Project {
	all := []*draft{c.project()}
	for range 4 + c.Intn(6) {
		last := all[len(all)-1]
		switch c.Intn(8) {
		case 0:
			last = all[c.Intn(len(all))]
		case 1:
			last = c.project()
		default:
			for range 1 + c.Intn(2) {
				last = c.altered(last)
			}
		}
		all = append(all, last)
	}
	var out []api.Project
	for _, d := range all {
		out = append(out, d.project())
	}
	return out
}

// L1 to L3: as another way of building says, on projects of chance; and what runs is what was expanded.
func TestL3Other(t *testing.T) {
	c := chance{rand.New(rand.NewSource(1))}
	errs := map[api.Errno]int{}
	saved, anew, ran := 0, 0, 0
	for range 400 {
		l := c.line()
		var others []*other
		for _, p := range l {
			o := otherBuild(p)
			others = append(others, o)
			errs[o.step.Err]++
			s := build.Build(p)
			if s.Err != o.step.Err || s.Culprit != o.step.Culprit || bracketed(s.Compiled) != bracketed(o.step.Compiled) || !same(s.Image, o.step.Image) {
				t.Fatalf("%v: %s comes, not %s", p, brief(s), brief(o.step))
			}
			if s.Err == api.OK && runs(t, o.parts, s.Image) {
				ran++
			}
		}
		want := otherPlay(others)
		steps, err := build.Play(l)
		if err != api.OK || len(steps) != len(l) {
			t.Fatalf("%d steps of %d, %d", len(steps), len(l), err)
		}
		for i, s := range steps {
			o := others[i].step
			if got := bracketed(s.Compiled); got != want[i] || s.Err != o.Err || s.Culprit != o.Culprit || !same(s.Image, o.Image) {
				t.Fatalf("%d of %v: %s is compiled, not %s; %s comes, not %s", i, l, got, want[i], brief(s), brief(o))
			}
			anew += len(s.Compiled)
			saved += len(o.Compiled) - len(s.Compiled)
		}
	}
	t.Logf("%v, %d ran, %d anew, %d saved", errs, ran, anew, saved)
	for _, err := range []api.Errno{api.OK, api.ErrForm, api.ErrNone, api.ErrName, api.ErrFit, api.ErrCycle, api.ErrSet, api.ErrSteps} {
		if errs[err] < 3 {
			t.Errorf("%d is seldom told", err)
		}
	}
	if ran < 1000 || anew < 2000 || saved < 2000 {
		t.Errorf("%d ran, %d anew, %d saved: chance has become lame", ran, anew, saved)
	}
}

// runs tells whether an image runs to its end: just as its parts do.
func runs(t *testing.T, parts []api.Part, im api.Image) bool {
	t.Helper()
	a, err := machine.Run(im, api.MaxSteps)
	b, f := model.Run(parts, api.MaxSteps)
	if err != api.OK || f.Err != api.OK || a.How != b.How || !slices.Equal(a.Out, b.Out) {
		t.Fatalf("%v %d comes of the image, %v %d of the parts", a, err, b, f)
	}
	return a.How == api.RunDone
}
