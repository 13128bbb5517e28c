package graph_test

import (
	"math/rand"
	"slices"
	"testing"

	"graftwood/api"
	"graftwood/graph"
)

// otherOrder answers as D1 says, word for word, for Order to be held against.
func otherOrder(l []api.Node) ([]string, string, api.Errno) {
	var names []string
	for _, n := range l {
		if slices.Contains(names, n.Name) {
			return nil, n.Name, api.ErrFit
		}
		names = append(names, n.Name)
	}
	slices.Sort(names)
	needs := func(name string) []string {
		return l[slices.IndexFunc(l, func(n api.Node) bool { return n.Name == name })].Needs
	}
	for _, name := range names {
		for _, s := range needs(name) {
			if !slices.Contains(names, s) {
				return nil, name, api.ErrNone
			}
		}
	}
	for _, name := range names {
		reached := slices.Clone(needs(name))
		for range names {
			for _, s := range reached {
				reached = append(reached, needs(s)...)
			}
			slices.Sort(reached)
			reached = slices.Compact(reached)
		}
		if slices.Contains(reached, name) {
			return nil, name, api.ErrCycle
		}
	}
	var out []string
	for range names {
		at := slices.IndexFunc(names, func(name string) bool {
			missing := slices.ContainsFunc(needs(name), func(s string) bool { return !slices.Contains(out, s) })
			return !missing && !slices.Contains(out, name)
		})
		out = append(out, names[at])
	}
	return out, "", api.OK
}

// Whatever nodes come, Order answers as the other does.
func TestD1AsOther(t *testing.T) {
	r := rand.New(rand.NewSource(5))
	seen := map[api.Errno]int{}
	for range 40000 {
		l := anyNodes(r)
		got, who, err := graph.Order(l)
		want, whose, e := otherOrder(l)
		if err != e || who != whose || !slices.Equal(got, want) {
			t.Fatalf("Order(%v) is %v %q %v, not %v %q %v", l, got, who, err, want, whose, e)
		}
		seen[err]++
	}
	for _, err := range []api.Errno{api.OK, api.ErrFit, api.ErrNone, api.ErrCycle} {
		if seen[err] < 1000 {
			t.Errorf("%v came %d times", err, seen[err])
		}
	}
}

// anyNodes: mostly those ahead are needed, so that many of them can be put in order.
func anyNodes(r *rand.Rand) []api.Node {
	from := []string{"", "a", "A", "aa", "b", "ab", "\xff", "z", "c", "\x00"}
	r.Shuffle(len(from), func(i, j int) { from[i], from[j] = from[j], from[i] })
	n := r.Intn(len(from))
	back := r.Intn(3) == 0
	var l []api.Node
	for i := range n {
		node := api.Node{Name: from[i]}
		for range r.Intn(3) {
			switch {
			case r.Intn(40) == 0:
				node.Needs = append(node.Needs, from[r.Intn(len(from))])
			case back:
				node.Needs = append(node.Needs, from[r.Intn(n)])
			case i > 0:
				node.Needs = append(node.Needs, from[r.Intn(i)])
			}
		}
		l = append(l, node)
	}
	if n > 1 && r.Intn(10) == 0 {
		l[r.Intn(n)].Name = l[r.Intn(n)].Name
	}
	r.Shuffle(n, func(i, j int) { l[i], l[j] = l[j], l[i] })
	return l
}
