package graph_test

import (
	"reflect"
	"slices"
	"testing"
	"unsafe"

	"graftwood/api"
	"graftwood/graph"
)

// Z2: neither what is handed in nor its spare room is changed.
func TestZ2OnlyRead(t *testing.T) {
	spare := func(l ...string) []string {
		return append(append(make([]string, 0, 8), l...), "spare", "spare")[:len(l)]
	}
	for _, l := range []string{"c:a,b b:a a", "c:a b a a", "c:z b a", "c:c b a:b"} {
		make1 := func() []api.Node {
			out := make([]api.Node, 0, 8)
			for _, n := range nodes(l) {
				out = append(out, api.Node{Name: n.Name, Needs: spare(n.Needs...)})
			}
			return append(out, api.Node{Name: "a", Needs: spare("a")})[:len(out)]
		}
		is, was := make1(), make1()
		graph.Order(is)
		if !reflect.DeepEqual(is[:8], was[:8]) {
			t.Errorf("%v was changed into %v", was[:8], is[:8])
		}
		for i := range is {
			if !slices.Equal(is[i].Needs[:8], was[i].Needs[:8]) {
				t.Errorf("spare room %v was changed into %v", was[i].Needs[:8], is[i].Needs[:8])
			}
		}
	}
}

// Z2: no text of an answer is one that was handed in.
func TestZ2New(t *testing.T) {
	for _, l := range []string{"c:a,b b:a a", "c:a b a a", "c:z b a", "c:c b a:b"} {
		given := map[*byte]string{}
		give := func(s string) string {
			s = string([]byte("<" + s + ">"))
			given[unsafe.StringData(s)] = s
			return s
		}
		is := nodes(l)
		for i := range is {
			is[i].Name = give(is[i].Name)
			for k := range is[i].Needs {
				is[i].Needs[k] = give(is[i].Needs[k])
			}
		}
		order, who, _ := graph.Order(is)
		for _, s := range append(order, who) {
			if s != "" && given[unsafe.StringData(s)] != "" {
				t.Errorf("%s is the text that was handed in", s)
			}
		}
	}
}

// Z3: nil and a list without entries are the same.
func TestZ3Empty(t *testing.T) {
	for _, none := range [][]api.Node{nil, {}} {
		ordersAll(t, none, nil)
	}
	for _, none := range [][]string{nil, {}} {
		ordersAll(t, []api.Node{{Name: "b", Needs: none}, {Name: "a", Needs: []string{"b"}}}, []string{"b", "a"})
	}
}

// Z1: what is answered does not hang on how a map is gone through.
func TestZ1Same(t *testing.T) {
	for range 50 {
		orders(t, "h:a,b g f:b e d:h c b:a a", "a b c e f g h d")
		fails(t, "h:i,b g f:b e:d d:e c:h b:a a i:h", "d", api.ErrCycle)
		fails(t, "h:x g:y f:z e:u d:v c", "d", api.ErrNone)
		fails(t, "h g f e d g h f e", "g", api.ErrFit)
	}
}
