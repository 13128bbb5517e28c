package names_test

import (
	"reflect"
	"slices"
	"testing"
	"unsafe"

	"graftwood/api"
	"graftwood/names"
)

// Z1: a set that is among its own kids is none of which something is promised, but all calls end.
func TestZ1OwnKid(t *testing.T) {
	s := api.Set{Kind: api.SetOnly, Kids: make([]api.Set, 1)}
	s.Kids[0] = s
	isLib(t, s, "")
	fails(t, s, "a", api.ErrMuch)
}

// Z2: neither what is handed in nor its spare room is changed.
func TestZ2OnlyRead(t *testing.T) {
	spare := func(l ...string) []string {
		l = append(make([]string, 0, 8), l...)
		for i := range l[len(l):cap(l)] {
			l[len(l):cap(l)][i] = "spare"
		}
		return l
	}
	make1 := func() (api.Set, []string, []api.Bind) {
		kids := append(make([]api.Set, 0, 2), api.Set{Kind: api.SetLib, Name: "m"})
		s := api.Set{Kind: api.SetRename, Names: spare("c", "a"), As: spare("y", "x"), Kids: kids}
		l := append(make([]api.Bind, 0, 8), binds("b=m.b a=m.a b=m.b")...)
		l[:8][5] = api.Bind{Here: "spare"}
		return s, spare("c", "a", "b"), l
	}
	s, exports, l := make1()
	names.Lib(s)
	if got, err := names.Of(s, exports); err != api.OK || !slices.Equal(got, pairs("b=b x=a y=c")) {
		t.Errorf("Of is %v %v", got, err)
	}
	if got, f := names.Merge(l); f.Err != api.OK || !slices.Equal(got, binds("a=m.a b=m.b")) {
		t.Errorf("Merge is %v %v", got, f)
	}
	s2, exports2, l2 := make1()
	if !reflect.DeepEqual(s, s2) || !slices.Equal(exports[:8], exports2[:8]) || !slices.Equal(l[:8], l2[:8]) {
		t.Error("what was handed in was changed")
	}
	if !slices.Equal(s.Names[:8], s2.Names[:8]) || !slices.Equal(s.As[:8], s2.As[:8]) || !reflect.DeepEqual(s.Kids[:2], s2.Kids[:2]) {
		t.Error("spare room was changed")
	}
}

// Z2: no text of an answer is one that was handed in.
func TestZ2New(t *testing.T) {
	given := map[*byte]string{}
	give := func(s string) string {
		s = string([]byte("<" + s + ">"))
		given[unsafe.StringData(s)] = s
		return s
	}
	isNew := func(s string) {
		t.Helper()
		if given[unsafe.StringData(s)] != "" {
			t.Errorf("%s is the text that was handed in", s)
		}
	}
	m := api.Set{Kind: api.SetLib, Name: give("m")}
	isNew(names.Lib(m))
	exports := []string{give("a"), give("b")}
	s := api.Set{Kind: api.SetRename, Names: []string{give("a")}, As: []string{give("q")}, Kids: []api.Set{m}}
	for _, s := range []api.Set{m, s, prefix(s, give("p")), only(s, give("q")), except(s, give("b"))} {
		l, err := names.Of(s, exports)
		if err != api.OK {
			t.Error(err)
		}
		for _, p := range l {
			isNew(p.Here)
			isNew(p.There)
		}
	}
	l, _ := names.Merge([]api.Bind{{Here: give("a"), Lib: give("m"), Own: give("x")}})
	isNew(l[0].Here)
	isNew(l[0].Lib)
	isNew(l[0].Own)
}

// Z3: nil and a list without entries are the same.
func TestZ3Empty(t *testing.T) {
	for _, none := range [][]string{nil, {}} {
		for kind := api.SetOnly; kind <= api.SetRename; kind++ {
			s := api.Set{Kind: kind, Names: none, As: none, Prefix: "p", Kids: []api.Set{lib}}
			if l, err := names.Of(s, none); err != api.OK || len(l) != 0 {
				t.Errorf("Of is %v %v", l, err)
			}
			s.Kids = []api.Set{}
			fails(t, s, "", api.ErrMany)
		}
	}
	for _, none := range [][]api.Bind{nil, {}} {
		if l, f := names.Merge(none); f != (api.Fault{}) || len(l) != 0 {
			t.Errorf("Merge is %v %v", l, f)
		}
	}
}
