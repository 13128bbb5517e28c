package build_test

import (
	"fmt"
	"reflect"
	"slices"
	"strings"
	"testing"

	"graftwood/api"
	"graftwood/build"
	"graftwood/machine"
)

// sources is a project of these texts; they are called s0, s1, and so on.
func sources(l ...string) api.Project {
	var p api.Project
	for i, s := range l {
		p.Sources = append(p.Sources, api.File{Name: fmt.Sprint("s", i), Text: s})
	}
	return p
}

// with is p with a file more.
func with(p api.Project, name, text string) api.Project {
	p.Files = append(slices.Clone(p.Files), api.File{Name: name, Text: text})
	return p
}

// library is the text of one that brings out, in sets beside the base, and that has a body.
func library(name, exports, sets, body string) string {
	return "(library (" + name + ") (export " + exports + ") (import (base) " + sets + ") (begin " + body + "))"
}

// program is likewise.
func program(sets, body string) string {
	return "(program (import (base) " + sets + ") (begin " + body + "))"
}

// repeated is what form tells for each number below n.
func repeated(n int, form func(i int) string) string {
	var b strings.Builder
	for i := range n {
		b.WriteString(form(i))
		b.WriteByte('\n')
	}
	return b.String()
}

// defines is n definitions of names that begin with letter.
func defines(n int, letter string) string {
	return repeated(n, func(i int) string { return fmt.Sprintf("(define %s%d %d)", letter, i, i) })
}

// listed is n names that begin with letter.
func listed(n int, letter string) string {
	return repeated(n, func(i int) string { return fmt.Sprint(letter, i) })
}

// bracketed is what libraries are called, each in brackets: so that a program is seen.
func bracketed(l []string) string {
	out := ""
	for _, s := range l {
		out += "[" + s + "]"
	}
	return out
}

func brief(x any) string {
	s := fmt.Sprintf("%+v", x)
	if len(s) <= 500 {
		return s
	}
	return s[:250] + " .. " + s[len(s)-250:]
}

// empty tells whether an image has nothing.
func empty(im api.Image) bool {
	return len(im.Globals) == 0 && len(im.Protos) == 0 && len(im.Starts) == 0
}

// fails: that is wrong with p, and with that source, when those were compiled.
func fails(t *testing.T, p api.Project, err api.Errno, culprit, compiled string) {
	t.Helper()
	s := build.Build(p)
	if s.Err != err || s.Culprit != culprit || bracketed(s.Compiled) != compiled || !empty(s.Image) {
		t.Errorf("%s: %s comes, not %d with %q beside %s", brief(p), brief(s), err, culprit, compiled)
	}
}

// gives: p's libraries are these, and it puts that out.
func gives(t *testing.T, p api.Project, compiled, out string) {
	t.Helper()
	s := build.Build(p)
	if s.Err != api.OK || s.Culprit != "" || bracketed(s.Compiled) != compiled {
		t.Errorf("%s: %s comes, not %s", brief(p), brief(s), compiled)
		return
	}
	r, err := machine.Run(s.Image, api.MaxSteps)
	if got := strings.Join(r.Out, " "); err != api.OK || r.How != api.RunDone || got != out {
		t.Errorf("%s: %s, %d is put out (%d), not %s", brief(p), got, r.How, err, out)
	}
}

// plays: of the projects, one behind the other, those are compiled; and all else is as Build tells it.
func plays(t *testing.T, l []api.Project, compiled ...string) {
	t.Helper()
	steps, err := build.Play(l)
	if err != api.OK || len(steps) != len(l) || len(l) != len(compiled) {
		t.Errorf("%d steps come of %d projects, and %d", len(steps), len(l), err)
		return
	}
	for i, s := range steps {
		if got := bracketed(s.Compiled); got != compiled[i] {
			t.Errorf("project %d: %s is compiled, not %s", i, got, compiled[i])
		}
		sameButCompiled(t, l[i], s)
	}
}

func sameButCompiled(t *testing.T, p api.Project, s api.Step) {
	t.Helper()
	alone := build.Build(p)
	if s.Err != alone.Err || s.Culprit != alone.Culprit || !same(s.Image, alone.Image) {
		t.Errorf("%s: %s comes behind others, alone %s", brief(p), brief(s), brief(alone))
	}
}

// same tells whether both are the same image: nil and a list without entries are.
func same(a, b api.Image) bool {
	return alike(reflect.ValueOf(a), reflect.ValueOf(b))
}

func alike(a, b reflect.Value) bool {
	switch a.Kind() {
	case reflect.Slice:
		if a.Len() != b.Len() {
			return false
		}
		for i := range a.Len() {
			if !alike(a.Index(i), b.Index(i)) {
				return false
			}
		}
		return true
	case reflect.Struct:
		for i := range a.NumField() {
			if !alike(a.Field(i), b.Field(i)) {
				return false
			}
		}
		return true
	}
	return a.Equal(b)
}
