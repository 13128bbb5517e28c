package graph

import (
	"slices"

	"graftwood/api"
)

// web has all names in rising order, so that one with a smaller number is the lesser one; who needs whom goes by these numbers.
type web struct {
	names []string
	needs [][]int
	users [][]int
}

// ranked tells how many names are less than each of l's, or who is called as one ahead.
func ranked(l []api.Node) (map[string]int, string, api.Errno) {
	rank := map[string]int{}
	var names []string
	for _, n := range l {
		if _, ok := rank[n.Name]; ok {
			return nil, n.Name, api.ErrFit
		}
		rank[n.Name] = 0
		names = append(names, n.Name)
	}
	slices.Sort(names)
	for i, s := range names {
		rank[s] = i
	}
	return rank, "", api.OK
}

// woven is l as a web, or the least name of one that needs what none is called.
func woven(l []api.Node, rank map[string]int) (web, string, api.Errno) {
	w := web{make([]string, len(l)), make([][]int, len(l)), make([][]int, len(l))}
	lost := len(l)
	for _, n := range l {
		i := rank[n.Name]
		w.names[i] = n.Name
		if !w.weave(i, n.Needs, rank) {
			lost = min(lost, i)
		}
	}
	if lost < len(l) {
		return web{}, w.names[lost], api.ErrNone
	}
	return w, "", api.OK
}

// weave notes what i needs; it answers whether there is all of it.
func (w web) weave(i int, needs []string, rank map[string]int) bool {
	for _, s := range needs {
		k, ok := rank[s]
		if !ok {
			return false
		}
		w.needs[i] = append(w.needs[i], k)
		w.users[k] = append(w.users[k], i)
	}
	return true
}
