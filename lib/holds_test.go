package lib_test

import (
	"math/rand"
	"reflect"
	"testing"
	"unsafe"

	"graftwood/api"
	"graftwood/lib"
)

const whole = "(library (a b) (export x (rename y z)) (import (m) (only (m) p q) (prefix (m) r) (rename (m) (s t) (u v))) (begin 1 (w (k)) #t) (include f quoted f) (cond-expand ((and fast (library (m n))) (begin (o ())))))"

// Z1: a datum that is among its own kids is too deep.
func TestZ1OwnKid(t *testing.T) {
	d := list(make([]api.Datum, 2)...)
	d.Kids[0], d.Kids[1] = sym("program"), d
	failsOf(t, files, d, api.ErrMuch)
	odd := api.Datum{Kind: api.DNum, Kids: make([]api.Datum, 1)}
	odd.Kids[0] = odd
	l, err := lib.Parse(nil, nil, nil, list(sym("program"), list(sym("begin"), odd)))
	if err != api.OK || !same(l, api.Lib{Body: data(t, "0")}) {
		t.Errorf("Parse is %v", err)
	}
}

// Z1: whatever data come, a call answers, and twice the same.
func TestZ1AnyDatum(t *testing.T) {
	r := rand.New(rand.NewSource(5))
	some := words("library program export import begin include cond-expand else and or not only rename f zz m a")
	var any1 func(deep int) api.Datum
	any1 = func(deep int) api.Datum {
		switch n := r.Intn(12); {
		case n == 0:
			return api.Datum{Kind: r.Intn(7) - 1, N: r.Int63n(4) - 1}
		case n < 6 || deep == 0:
			return sym(some[r.Intn(len(some))])
		}
		var kids []api.Datum
		for range r.Intn(5) {
			kids = append(kids, any1(deep-1))
		}
		return list(kids...)
	}
	for range 20000 {
		d := any1(6)
		l, err := lib.Parse(files, features, libs, d)
		again, e := lib.Parse(files, features, libs, d)
		if e != err || !same(l, again) || err != api.OK && !same(l, api.Lib{}) {
			t.Fatalf("Parse(%v) is %v %v, and %v %v", d, l, err, again, e)
		}
		lib.Show(l)
	}
}

// spared is d with spare room behind each list, in which something stands.
func spared(d api.Datum) api.Datum {
	kids := make([]api.Datum, 0, len(d.Kids)+3)
	for _, k := range d.Kids {
		kids = append(kids, spared(k))
	}
	for i := range kids[len(kids):cap(kids)] {
		kids[len(kids):cap(kids)][i] = sym("spare")
	}
	d.Kids = kids
	return d
}

// full is d with the spare room of each list in it.
func full(d api.Datum) api.Datum {
	var kids []api.Datum
	for _, k := range d.Kids[:cap(d.Kids)] {
		kids = append(kids, full(k))
	}
	d.Kids = kids
	return d
}

// Z2: neither what is handed in nor its spare room is changed, or looked at.
func TestZ2OnlyRead(t *testing.T) {
	d := spared(datum(t, whole))
	fs := append(make([]api.File, 0, 20), files...)
	fs[:20][19] = api.File{Name: "spare", Text: "1"}
	names := append(make([]string, 0, 20), features...)
	names[:20][19] = "spare"
	l, err := lib.Parse(fs, names, append(names[:0:0], libs...), d)
	want, _ := lib.Parse(files, features, libs, datum(t, whole))
	if err != api.OK || !same(l, want) {
		t.Errorf("Parse is %v %v, not %v", l, err, want)
	}
	if !reflect.DeepEqual(full(d), full(spared(datum(t, whole)))) {
		t.Error("the datum was changed")
	}
	if !reflect.DeepEqual(fs, files) || fs[:20][19].Name != "spare" || !reflect.DeepEqual(names, features) || names[:20][19] != "spare" {
		t.Error("what there is was changed")
	}
	failsOf(t, fs, datum(t, "(program (include spare))"), api.ErrNone)
	for i := range l.Body {
		l.Body[i] = spared(l.Body[i])
	}
	before := full(list(l.Body...))
	lib.Show(l)
	if !reflect.DeepEqual(full(list(l.Body...)), before) {
		t.Error("the body was changed")
	}
}

// seen has each place of each list, with its spare room, and each text.
type seen struct {
	t      *testing.T
	places map[unsafe.Pointer]int
	texts  map[*byte]int
}

func watch[T any](s seen, l []T) []T {
	all := l[:cap(l)]
	for i := range all {
		p := unsafe.Pointer(&all[i])
		if s.places[p]++; s.places[p] > 1 {
			s.t.Errorf("%v is in two lists", all[i])
		}
	}
	return l
}

func (s seen) text(x string) {
	if x != "" {
		s.texts[unsafe.StringData(x)]++
	}
}

func (s seen) words(l []string) {
	for _, x := range watch(s, l) {
		s.text(x)
	}
}

func (s seen) data(l []api.Datum) {
	for _, d := range watch(s, l) {
		s.text(d.Name)
		s.data(d.Kids)
	}
}

func (s seen) sets(l []api.Set) {
	for _, x := range watch(s, l) {
		s.text(x.Name)
		s.text(x.Prefix)
		s.words(x.Names)
		s.words(x.As)
		s.sets(x.Kids)
	}
}

func (s seen) lib(l api.Lib) {
	s.text(l.Name)
	for _, p := range watch(s, l.Exports) {
		s.text(p.Here)
		s.text(p.There)
	}
	s.sets(l.Imports)
	s.data(l.Body)
}

// Z2: what is answered shares no list and no text with what was handed in, and no two lists of it are one.
func TestZ2New(t *testing.T) {
	fresh := func() seen { return seen{t, map[unsafe.Pointer]int{}, map[*byte]int{}} }
	apart := func(a, b seen) {
		t.Helper()
		for p := range a.places {
			if b.places[p] > 0 {
				t.Error("a list is one that was handed in")
			}
		}
		for p := range a.texts {
			if b.texts[p] > 0 {
				t.Errorf("a text that begins with %c is one that was handed in", *p)
			}
		}
	}
	d := datum(t, whole)
	l, err := lib.Parse(files, features, libs, d)
	if err != api.OK {
		t.Fatal(err)
	}
	given, told, shown := fresh(), fresh(), fresh()
	given.data([]api.Datum{d})
	for _, f := range files {
		given.text(f.Name)
		given.text(f.Text)
	}
	told.lib(l)
	apart(told, given)
	shown.data([]api.Datum{lib.Show(l)})
	// The words that Show writes are constants, and may be one with others of this program.
	apart(shown, told)
}

// Z3: nil and a list without entries are the same.
func TestZ3Empty(t *testing.T) {
	for _, none := range [][]api.Datum{nil, {}} {
		empty := api.Datum{Kind: api.DList, Kids: none}
		failsOf(t, []api.File{}, empty, api.ErrForm)
		failsOf(t, nil, list(sym("library"), empty), api.ErrForm)
		l, err := lib.Parse([]api.File{}, []string{}, []string{}, list(sym("program"), list(sym("begin"), empty)))
		if err != api.OK || !same(l, api.Lib{Body: data(t, "()")}) {
			t.Errorf("Parse is %v %v", l, err)
		}
	}
	a := lib.Show(api.Lib{Name: "a"})
	b := lib.Show(api.Lib{Name: "a", Exports: []api.Pair{}, Imports: []api.Set{}, Body: []api.Datum{}})
	if !same(api.Lib{Body: []api.Datum{a}}, api.Lib{Body: []api.Datum{b}}) {
		t.Errorf("Show is %v, and %v", a, b)
	}
}
