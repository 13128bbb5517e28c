package build_test

import (
	"fmt"
	"reflect"
	"slices"
	"strings"
	"sync"
	"testing"
	"unsafe"

	"graftwood/api"
	"graftwood/build"
)

// roomy is l with spare room behind it, in which what stands.
func roomy[T any](l []T, what T) []T {
	out := append(make([]T, 0, len(l)+3), l...)
	for i := len(l); i < cap(out); i++ {
		out[:cap(out)][i] = what
	}
	return out
}

// given is projects with spare room everywhere, in which something stands that would be wrong, and all texts of their own.
func given() []api.Project {
	bad := changed(macros(), 2, "use 3", "zzz")
	l := []api.Project{with(with(macros(), "ff", "(out 1)"), "gg", "(out 2)"), three(), bad, macros()}
	for i := range l {
		p := &l[i]
		for j := range p.Sources {
			p.Sources[j].Name = fmt.Sprint("source", j)
			p.Sources[j].Text = strings.Clone(p.Sources[j].Text)
		}
		p.Sources = roomy(p.Sources, api.File{Name: "ss", Text: "(oops"})
		p.Files = roomy(p.Files, api.File{Name: "ff", Text: "(oops"})
		p.Features = roomy([]string{strings.Clone("fast")}, "slow")
	}
	return roomy(l, api.Project{})
}

// memory is v with the spare room of each list in it, as a text; met is told where each list and text in it begins.
func memory(v reflect.Value, met func(at unsafe.Pointer)) string {
	var out []string
	switch v.Kind() {
	case reflect.Slice:
		if v.Cap() > 0 {
			met(v.UnsafePointer())
		}
		all := v.Slice(0, v.Cap())
		for i := range all.Len() {
			out = append(out, memory(all.Index(i), met))
		}
	case reflect.Struct:
		for i := range v.NumField() {
			out = append(out, memory(v.Field(i), met))
		}
	case reflect.String:
		if s := v.String(); len(s) > 1 { // Go has all texts of one byte ready
			met(unsafe.Pointer(unsafe.StringData(s)))
		}
		return v.String()
	default:
		return fmt.Sprint(v.Interface())
	}
	return "[" + strings.Join(out, " ") + "]"
}

func ignore(unsafe.Pointer) {}

// Z2: neither what is handed in nor its spare room is changed, or looked at.
func TestZ2OnlyRead(t *testing.T) {
	l := given()
	was := memory(reflect.ValueOf(l), ignore)
	plays(t, l, "[m][n][]", "[m][n][]", "[m][n]", "[]")
	gives(t, l[0], "[m][n][]", "(5 . 1) (3 . 1)")
	fails(t, l[2], api.ErrName, "source2", "[m][n]")
	if memory(reflect.ValueOf(l), ignore) != was {
		t.Error("what was handed in was changed")
	}
}

// Z2: what is answered shares nothing with what is handed in, nor with another answer, and no two lists in it share anything.
func TestZ2New(t *testing.T) {
	l := given()
	own := map[unsafe.Pointer]int{}
	steps, _ := build.Play(l)
	memory(reflect.ValueOf(steps), func(at unsafe.Pointer) { own[at]++ })
	again, _ := build.Play(l)
	memory(reflect.ValueOf(again), func(at unsafe.Pointer) { own[at]++ })
	for _, p := range l {
		memory(reflect.ValueOf(build.Build(p)), func(at unsafe.Pointer) { own[at]++ })
	}
	for _, n := range own {
		if n > 1 {
			t.Error("what is answered shares memory")
		}
	}
	if len(own) < 100 {
		t.Errorf("only %d lists and texts are answered", len(own))
	}
	memory(reflect.ValueOf(l), func(at unsafe.Pointer) {
		if own[at] > 0 {
			t.Error("what is answered shares memory with what was handed in")
		}
	})
	// What is answered stays, when the caller changes what was handed in.
	was := memory(reflect.ValueOf(steps), ignore)
	for _, p := range l {
		clear(p.Sources)
		clear(p.Files)
		clear(p.Features)
	}
	if memory(reflect.ValueOf(steps), ignore) != was {
		t.Error("what was answered is changed")
	}
}

// Z1, Z2: nothing is kept from call to call, and no answer hangs on how a map is gone through, nor on other calls.
func TestZ2AtOnce(t *testing.T) {
	l := given()
	want, _ := build.Play(l)
	var all sync.WaitGroup
	got := make([][]api.Step, 8)
	for i := range got {
		all.Go(func() {
			for range 10 {
				build.Build(l[i%len(l)])
				got[i], _ = build.Play(l)
			}
		})
	}
	all.Wait()
	for _, steps := range got {
		if !alike(reflect.ValueOf(steps), reflect.ValueOf(want)) {
			t.Errorf("one of several calls: %s", brief(steps))
		}
	}
}

// Z1, Z2: the caller may do what he likes with a step.
func TestZ2Between(t *testing.T) {
	p := macros()
	s := build.Build(p)
	for i := range s.Image.Protos {
		clear(s.Image.Protos[i].Code)
	}
	clear(s.Image.Globals)
	clear(s.Compiled)
	gives(t, p, "[m][n][]", "(5 . 1) (3 . 1)")
}

// Z3: nil and a list without entries are the same.
func TestZ3Empty(t *testing.T) {
	for _, none := range [][]api.File{nil, {}} {
		for _, features := range [][]string{nil, {}} {
			fails(t, api.Project{Sources: none, Files: none, Features: features}, api.ErrNone, "", "")
			gives(t, api.Project{Sources: sources(nothing).Sources, Files: none, Features: features}, "[]", "")
		}
	}
	for _, none := range [][]api.Project{nil, {}} {
		if steps, err := build.Play(none); len(steps) != 0 || err != api.OK {
			t.Errorf("%v, %d comes of no project", steps, err)
		}
	}
}

// Z1: whatever the bytes of sources and files are, and whatever they are called.
func TestZ1Bytes(t *testing.T) {
	odd := []string{"", "\x00", "\xff\xfe", "(", "()", "(())", "((()))", "'", "'()", "(library)", "(library ())", "(library (()))", "(program ())", "(program (import ()))", "(program (import (())))", "(program (begin))", "(library (base base))", "(program (export))", "(program (cond-expand ()))", "(program (include))", "((program))", "(define x)", "(program (begin (define) (define-syntax) (define ()) (define-syntax ())))", strings.Repeat("(", 6000), strings.Repeat("'", 6000), strings.Repeat("x", 7000)}
	for _, a := range odd {
		for _, b := range odd {
			p := with(with(sources(a, b), a, b), "f", a)
			p.Features = []string{a, b}
			p.Sources[0].Name = b
			plays(t, []api.Project{p, p}, bracketed(build.Build(p).Compiled), "")
			p = sources("(program (import (base)) (include f))")
			p.Sources[0].Name = a
			sameTwice(t, with(p, "f", b))
		}
	}
}

func sameTwice(t *testing.T, p api.Project) {
	t.Helper()
	a, b := build.Build(p), build.Build(p)
	if !alike(reflect.ValueOf(a), reflect.ValueOf(b)) {
		t.Errorf("%s: %s, then %s comes", brief(p), brief(a), brief(b))
	}
}

// Z1: a macro that grows as much as it can, in each of many forms, ends soon.
func TestZ1Grown(t *testing.T) {
	grow := "(define-syntax m (syntax-rules () ((_ a b ...) (m b ... " + strings.Repeat("a ", 700) + "))))"
	many := strings.Repeat("(m 1) ", 150)
	fails(t, sources(library("a", "m", "", grow), program("(a)", many)), api.ErrMuch, "s1", "[a]")
	twice := "(define-syntax t (syntax-rules () ((_) 1) ((_ a b ...) (begin (t b ...) (t b ...)))))"
	gives(t, sources(program("", twice+strings.Repeat("(t 1 1 1 1 1 1 1)", 23))), "[]", "")
	fails(t, sources(program("", twice+strings.Repeat("(t 1 1 1 1 1 1 1)", 24))), api.ErrMuch, "s0", "")
	fails(t, sources(program("", twice+strings.Repeat("(t 1 1 1 1 1 1 1 1)", 100))), api.ErrSteps, "s0", "")
}

// Z4: a step of a project that is wrong has no image, and a step of one that is right no culprit.
func TestZ4Zero(t *testing.T) {
	l := given()
	steps, _ := build.Play(l)
	for i, s := range steps {
		if wrong := s.Err != api.OK; wrong != (i == 2) || wrong != empty(s.Image) || wrong != (s.Culprit != "") {
			t.Errorf("step %d: %s", i, brief(s))
		}
		for _, g := range s.Image.Globals {
			if g.Here != "" || !slices.Contains(steps[0].Compiled, g.Lib) {
				t.Errorf("step %d: global %v", i, g)
			}
		}
	}
}
