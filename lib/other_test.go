package lib_test

import (
	"math/rand"
	"regexp"
	"slices"
	"strings"
	"testing"

	"graftwood/api"
	"graftwood/lib"
	"graftwood/text"
)

// other takes libraries apart as chapter 3 says, from how they are written: a thing is its text, and a library is told by the declarations that Show would give. Parse is held against it.
type other struct {
	name                  string
	program               bool
	exports, sets, bodies []string
	here                  []string
}

var (
	aName   = regexp.MustCompile(`^[a-z][a-z0-9-]*$`)
	aCall   = regexp.MustCompile(`^\([a-z][a-z0-9-]*( [a-z][a-z0-9-]*)*\)$`)
	aRename = regexp.MustCompile(`^\(rename [a-z][a-z0-9-]* ([a-z][a-z0-9-]*)\)$`)
	aPair   = regexp.MustCompile(`^\([a-z][a-z0-9-]* [a-z][a-z0-9-]*\)$`)
	ofSet   = regexp.MustCompile(`^\((only|except|prefix|rename) \(`)
)

// parts are the texts of what a list has.
func parts(s string) []string {
	if !strings.HasPrefix(s, "(") {
		return nil
	}
	var out []string
	deep, from := 0, 1
	for i, c := range s {
		switch {
		case c == '(':
			deep++
		case c == ')':
			deep--
		}
		if i > from && (deep == 1 && c == ' ' || deep == 0) {
			out = append(out, s[from:i])
			from = i + 1
		}
	}
	return out
}

func line(d api.Datum) string {
	s, f := text.Print([]api.Datum{d})
	if f.Err != api.OK {
		return "wrong"
	}
	return strings.TrimSuffix(s, "\n")
}

func (o *other) all(s string) api.Errno {
	l := parts(s)
	switch {
	case len(l) == 0:
		return api.ErrForm
	case l[0] == "program":
		o.program = true
		return o.declarations(l[1:])
	case l[0] != "library" || len(l) < 2:
		return api.ErrForm
	}
	if err := wrongCall(l[1]); err != api.OK {
		return err
	}
	o.name = l[1]
	return o.declarations(l[2:])
}

func wrongCall(s string) api.Errno {
	if !aCall.MatchString(s) {
		return api.ErrForm
	}
	if len(s)-2 > api.MaxLibName {
		return api.ErrMuch
	}
	return api.OK
}

// declarations has a line of what is still to come: what a clause declares comes to its front.
func (o *other) declarations(line []string) api.Errno {
	for len(line) > 0 {
		l := parts(line[0])
		line = line[1:]
		if len(l) == 0 {
			return api.ErrForm
		}
		if l[0] == "cond-expand" {
			taken, err := otherTaken(l[1:])
			if err != api.OK {
				return err
			}
			line = append(taken, line...)
			continue
		}
		if err := o.declaration(l[0], l[1:]); err != api.OK {
			return err
		}
	}
	return api.OK
}

func (o *other) declaration(word string, l []string) api.Errno {
	one := map[string]func(string) api.Errno{"export": o.export, "import": o.set, "include": o.include}[word]
	switch {
	case word == "begin":
		return o.body(l)
	case one == nil || word == "export" && o.program:
		return api.ErrForm
	}
	for _, s := range l {
		if err := one(s); err != api.OK {
			return err
		}
	}
	return api.OK
}

func (o *other) export(s string) api.Errno {
	here := s
	if m := aRename.FindStringSubmatch(s); m != nil {
		here = m[1]
		if p := parts(s); p[1] == here {
			s = here
		}
	} else if !aName.MatchString(s) {
		return api.ErrForm
	}
	if slices.Contains(o.here, here) {
		return api.ErrFit
	}
	if len(o.here) >= api.MaxNames {
		return api.ErrMany
	}
	o.here = append(o.here, here)
	o.exports = append(o.exports, s)
	return api.OK
}

// set goes to the innermost set, and back.
func (o *other) set(s string) api.Errno {
	if len(o.sets) >= api.MaxImports {
		return api.ErrMany
	}
	chain := []string{s}
	for ofSet.MatchString(chain[0]) {
		chain = append([]string{parts(chain[0])[1]}, chain...)
		if len(chain) > api.MaxSet {
			return api.ErrMuch
		}
	}
	if err := wrongCall(chain[0]); err != api.OK {
		return err
	}
	for _, c := range chain[1:] {
		l := parts(c)
		like := aName
		if l[0] == "rename" {
			like = aPair
		}
		if l[0] == "prefix" && len(l) != 3 || slices.ContainsFunc(l[2:], func(s string) bool { return !like.MatchString(s) }) {
			return api.ErrForm
		}
	}
	o.sets = append(o.sets, s)
	return api.OK
}

func (o *other) body(l []string) api.Errno {
	o.bodies = append(o.bodies, l...)
	if len(o.bodies) > api.MaxBody {
		return api.ErrMany
	}
	return api.OK
}

func (o *other) include(s string) api.Errno {
	if !aName.MatchString(s) {
		return api.ErrForm
	}
	for _, f := range files {
		if f.Name != s {
			continue
		}
		l, fault := text.Read(f.Text)
		if fault.Err != api.OK {
			return fault.Err
		}
		var lines []string
		for _, d := range l {
			lines = append(lines, line(d))
		}
		return o.body(lines)
	}
	return api.ErrNone
}

func otherTaken(clauses []string) ([]string, api.Errno) {
	for _, c := range clauses {
		l := parts(c)
		if len(l) == 0 {
			return nil, api.ErrForm
		}
		if l[0] == "else" {
			return l[1:], api.OK
		}
		if is, err := otherHolds(l[0]); err != api.OK {
			return nil, err
		} else if is {
			return l[1:], api.OK
		}
	}
	return nil, api.OK
}

func otherHolds(s string) (bool, api.Errno) {
	if aName.MatchString(s) {
		return slices.Contains(features, s), api.OK
	}
	l := parts(s)
	switch {
	case len(l) == 2 && l[0] == "library":
		return slices.Contains(libs, strings.Trim(l[1], "()")), wrongCall(l[1])
	case len(l) == 2 && l[0] == "not":
		is, err := otherHolds(l[1])
		return !is, err
	case len(l) > 0 && (l[0] == "and" || l[0] == "or"):
		for _, s := range l[1:] {
			if is, err := otherHolds(s); err != api.OK || is == (l[0] == "or") {
				return is, err
			}
		}
		return l[0] == "and", api.OK
	}
	return false, api.ErrForm
}

// shown is what Show must give.
func (o *other) shown() string {
	put := func(word string, l []string) string {
		return " (" + strings.Join(append([]string{word}, l...), " ") + ")"
	}
	rest := put("import", o.sets) + put("begin", o.bodies) + ")"
	if o.program {
		return "(program" + rest
	}
	return "(library " + o.name + put("export", o.exports) + rest
}

// Whatever libraries come, right ones and nearly right ones, Parse and Show answer as the other does.
func TestC3AsOther(t *testing.T) {
	m := maker{rand.New(rand.NewSource(6))}
	count := map[api.Errno]int{}
	for range 60000 {
		d := datum(t, m.whole())
		var o other
		want := o.all(line(d))
		l, err := lib.Parse(files, features, libs, d)
		if err != want || err != api.OK && !same(l, api.Lib{}) {
			t.Fatalf("Parse(%s) is %v %v, not %v", line(d), l, err, want)
		}
		count[err]++
		if err != api.OK {
			continue
		}
		if got := line(lib.Show(l)); got != o.shown() {
			t.Fatalf("of %s is shown %s, not %s", line(d), got, o.shown())
		}
		if again, e := lib.Parse(nil, nil, nil, lib.Show(l)); e != api.OK || !same(again, l) {
			t.Fatalf("of %s is parsed %v %v, then %v", line(d), l, e, again)
		}
	}
	for _, err := range []api.Errno{api.OK, api.ErrForm, api.ErrRange, api.ErrMuch, api.ErrMany, api.ErrNone, api.ErrName, api.ErrFit} {
		if count[err] < 100 {
			t.Errorf("%v came %d times", err, count[err])
		}
	}
}

// maker writes libraries in which now and then something is wrong.
type maker struct {
	*rand.Rand
}

func (m maker) of(l ...string) string { return l[m.Intn(len(l))] }

func (m maker) some(n int, one func() string) string {
	var l []string
	for range m.Intn(n) {
		l = append(l, one())
	}
	return " " + strings.Join(l, " ")
}

// odd is s, or, once in a while, something else.
func (m maker) odd(s string) string {
	if m.Intn(150) > 0 {
		return s
	}
	return m.of("5", "#t", "()", "(5)", "x", "(x)", "((m))", "("+s+")", s+" "+s, "", "(only 5)", "(not)", "else")
}

func (m maker) name() string {
	return m.odd(m.of("a", "b", "c", "d", "e", "g", "h", "i", "only", "rename", "prefix") + m.of("", "1", "2", "-"))
}

func (m maker) call() string {
	if m.Intn(100) == 0 {
		return "(" + long(58+m.Intn(5)) + ")"
	}
	return m.odd("(" + m.of("base", "m", "m n", "n", "only", "only b", "rename a b", "library") + ")")
}

func (m maker) whole() string {
	start := "(program"
	if m.Intn(3) > 0 {
		start = "(library " + m.call()
	}
	return m.of("", " ") + start + m.some(6, func() string { return m.declaration(3) }) + ")"
}

func (m maker) declaration(deep int) string {
	n := m.Intn(7)
	if n > 4 && deep == 0 {
		n = 2
	}
	switch n {
	case 0:
		return m.odd("(export" + m.some(4, m.export) + ")")
	case 1:
		return m.odd("(import" + m.some(4, func() string { return m.set(3) }) + ")")
	case 2:
		return m.odd("(begin" + m.some(4, func() string { return m.of("1", "'x", "(f (g) ())", "#t", "(begin 1)") }) + ")")
	case 3:
		return m.odd("(include" + m.some(3, m.file) + ")")
	case 4:
		return m.great()
	}
	clause := func() string {
		return m.odd("(" + m.of(m.requirement(3), m.requirement(3), "else") + m.some(3, func() string { return m.declaration(deep - 1) }) + ")")
	}
	return m.odd("(cond-expand" + m.some(4, clause) + ")")
}

func (m maker) file() string {
	if m.Intn(20) > 0 {
		return m.odd(m.of("f", "none", "quoted"))
	}
	return m.of("zz", "open", "big", "long", "much", "full", "more")
}

func (m maker) export() string {
	if m.Intn(3) > 0 {
		return m.name()
	}
	return m.odd("(" + m.odd("rename") + " " + m.name() + " " + m.name() + ")")
}

// great is much of something, near its limit.
func (m maker) great() string {
	switch m.Intn(40) {
	case 0:
		return "(export " + many(198+m.Intn(4)) + ")"
	case 1:
		return "(import " + strings.Repeat("(m) ", 18+m.Intn(4)) + ")"
	case 2:
		return "(begin " + strings.Repeat("1 ", 197+m.Intn(5)) + ")"
	case 3:
		n := 10 + m.Intn(3)
		return "(import " + strings.Repeat("(only ", n) + m.odd("(m)") + strings.Repeat(")", n) + ")"
	}
	return ""
}

func (m maker) set(deep int) string {
	if deep == 0 || m.Intn(3) == 0 {
		return m.call()
	}
	start := m.set(deep - 1)
	switch m.Intn(4) {
	case 0:
		return m.odd("(only " + start + m.some(4, m.name) + ")")
	case 1:
		return m.odd("(except " + start + m.some(4, m.name) + ")")
	case 2:
		return m.odd("(prefix " + start + " " + m.name() + ")")
	}
	return m.odd("(rename " + start + m.some(4, func() string { return m.odd("(" + m.name() + " " + m.name() + ")") }) + ")")
}

func (m maker) requirement(deep int) string {
	inner := func() string { return m.requirement(deep - 1) }
	n := m.Intn(7)
	switch {
	case deep == 0 || n < 3:
		return m.odd(m.of("fast", "full", "slow", "else"))
	case n == 3:
		return m.odd("(library " + m.call() + ")")
	case n == 4:
		return m.odd("(not " + inner() + ")")
	}
	return m.odd("(" + m.of("and", "or") + m.some(4, inner) + ")")
}
