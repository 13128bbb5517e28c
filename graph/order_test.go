package graph_test

import (
	"slices"
	"strings"
	"testing"

	"graftwood/api"
)

func TestD1None(t *testing.T) {
	orders(t, "", "")
	orders(t, "a", "a")
}

func TestD1Behind(t *testing.T) {
	orders(t, "a:b b", "b a")
	orders(t, "a:b b:c c", "c b a")
	orders(t, "c b:c a:b", "c b a")
	orders(t, "a:c,b b:d c:d d", "d b c a")
}

// Again and again the least one: it is asked for anew behind each that stands there.
func TestD1Least(t *testing.T) {
	orders(t, "c b a", "a b c")
	orders(t, "a:z b c z", "b c z a")
	orders(t, "a:c b:d c d", "c a d b")
	orders(t, "b:a a c", "a b c")
	orders(t, "a:m b:m z m y:a", "m a b y z")
	orders(t, "x:m,b m:b,b b q:x", "b m x q")
}

func TestD1NeedsTwice(t *testing.T) {
	orders(t, "a:b,b,b b", "b a")
	orders(t, "a:b,c,b b:c,c c", "c b a")
}

// Names are bytes: no letter is like another, and a shorter one is less than what it begins.
func TestD1Bytes(t *testing.T) {
	ordersAll(t, []api.Node{{Name: "\xff"}, {Name: "z"}, {Name: "\xc3\xa4"}, {Name: "Z"}, {Name: "\x00"}, {Name: ""}, {Name: "a b"}, {Name: "a"}, {Name: "aa"}, {Name: "a\x00"}},
		[]string{"", "\x00", "Z", "a", "a\x00", "a b", "aa", "z", "\xc3\xa4", "\xff"})
	ordersAll(t, []api.Node{{Name: "", Needs: []string{"b"}}, {Name: "b"}}, []string{"b", ""})
	ordersAll(t, []api.Node{{Name: "a", Needs: []string{""}}, {Name: ""}}, []string{"", "a"})
	failsAll(t, []api.Node{{Name: "a", Needs: []string{""}}}, "a", api.ErrNone)
	failsAll(t, []api.Node{{Name: ""}, {Name: ""}}, "", api.ErrFit)
	failsAll(t, []api.Node{{Name: "a", Needs: []string{"b"}}, {Name: "B"}}, "a", api.ErrNone)
	failsAll(t, []api.Node{{Name: "b", Needs: []string{"\xff"}}, {Name: "\xfe"}, {Name: "\xc3", Needs: []string{"\xfd"}}}, "b", api.ErrNone)
}

// The first one in the list, not the least.
func TestD1Fit(t *testing.T) {
	fails(t, "a a", "a", api.ErrFit)
	fails(t, "a b b a", "b", api.ErrFit)
	fails(t, "a b a b", "a", api.ErrFit)
	fails(t, "c a b c a", "c", api.ErrFit)
	fails(t, "a:b b a", "a", api.ErrFit)
}

// The least one that needs, not what it needs, nor the first one.
func TestD1NoSuch(t *testing.T) {
	fails(t, "a:z", "a", api.ErrNone)
	fails(t, "b:c a:z", "a", api.ErrNone)
	fails(t, "b:z a:b", "b", api.ErrNone)
	fails(t, "c b:c,z a", "b", api.ErrNone)
	fails(t, "c:y b:z a", "b", api.ErrNone)
	fails(t, "b:z c:y a", "b", api.ErrNone)
}

func TestD1Ring(t *testing.T) {
	fails(t, "a:a", "a", api.ErrCycle)
	fails(t, "a b:b,b", "b", api.ErrCycle)
	fails(t, "a:b b:a", "a", api.ErrCycle)
	fails(t, "b:a a:b", "a", api.ErrCycle)
	fails(t, "a:b b:c c:d d:a", "a", api.ErrCycle)
	fails(t, "d:b b:c c:d a", "b", api.ErrCycle)
	fails(t, "z:b,y y:z b", "y", api.ErrCycle)
}

// Who needs one that needs itself does not need itself for that; nor does who is needed by it.
func TestD1NotInRing(t *testing.T) {
	fails(t, "a:b b:b", "b", api.ErrCycle)
	fails(t, "c:b b:c a:c", "b", api.ErrCycle)
	fails(t, "c:c,b b", "c", api.ErrCycle)
	fails(t, "a:b b:c c:d d:c", "c", api.ErrCycle)
	fails(t, "a b:a,b", "b", api.ErrCycle)
	fails(t, "b:c c:b,a a:d d:e e:d", "b", api.ErrCycle)
	fails(t, "d:e e:d,a a:c c:c", "c", api.ErrCycle)
}

// Of several rings the one with the least name, wherever it is met; one that two rings go through.
func TestD1Rings(t *testing.T) {
	fails(t, "d:e e:d b:c c:b a", "b", api.ErrCycle)
	fails(t, "b:c c:b d:e e:d a", "b", api.ErrCycle)
	fails(t, "a:b b:d d:b c:c", "b", api.ErrCycle)
	fails(t, "a:d d:e e:d b:b", "b", api.ErrCycle)
	fails(t, "m:x,y x:m y:b b:m a:m", "b", api.ErrCycle)
	fails(t, "f:g,c g:f c:d d:e,a e:c a:h h", "c", api.ErrCycle)
}

func TestD1First(t *testing.T) {
	fails(t, "a:z b b c:c", "b", api.ErrFit)
	fails(t, "a:a b:z", "b", api.ErrNone)
	fails(t, "a:b,z b:a c:c", "a", api.ErrNone)
}

// Long chains, and much that needs much, take neither a deep stack nor a step for each pair.
func TestD1Long(t *testing.T) {
	const n = 300000
	var l []api.Node
	var want []string
	for i := range n {
		l = append(l, api.Node{Name: numbered(i), Needs: []string{numbered(i + 1)}})
		want = append(want, numbered(n-i))
	}
	failsAll(t, l, numbered(n-1), api.ErrNone)
	want = append(want, numbered(0))
	ordersAll(t, append(slices.Clone(l), api.Node{Name: numbered(n)}), want)
	failsAll(t, append(slices.Clone(l), api.Node{Name: numbered(n), Needs: []string{numbered(n)}}), numbered(n), api.ErrCycle)
	failsAll(t, append(slices.Clone(l), api.Node{Name: numbered(n), Needs: []string{numbered(7)}}), numbered(7), api.ErrCycle)
	failsAll(t, append(slices.Clone(l), api.Node{Name: numbered(n)}, l[5]), numbered(5), api.ErrFit)
}

func TestD1Wide(t *testing.T) {
	const n = 100000
	var all []string
	for i := range n {
		all = append(all, numbered(i))
	}
	l := []api.Node{{Name: "a", Needs: all}}
	for _, s := range all {
		l = append(l, api.Node{Name: s, Needs: []string{"z"}})
	}
	ordersAll(t, append(slices.Clone(l), api.Node{Name: "z"}), append(append([]string{"z"}, all...), "a"))
	failsAll(t, append(slices.Clone(l), api.Node{Name: "z", Needs: []string{"z"}}), "z", api.ErrCycle)
	failsAll(t, append(slices.Clone(l), api.Node{Name: "z", Needs: []string{"a"}}), "a", api.ErrCycle)
	long := strings.Repeat("x", 100000)
	orders(t, long+"b:"+long+"c "+long+"c "+long+"a", long+"a "+long+"c "+long+"b")
}
