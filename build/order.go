package build

import (
	"graftwood/api"
	"graftwood/graph"
)

// ordered is all libraries, each behind what it needs, and the program last.
func ordered(all []library) []library {
	at := map[string]int{}
	var nodes []api.Node
	for i, l := range all {
		at[l.Name] = i
		if l.Name != program {
			nodes = append(nodes, api.Node{Name: l.Name, Needs: l.needs()})
		}
	}
	order, who, err := graph.Order(nodes)
	if err != api.OK {
		panic(thrown{err, all[at[who]].source})
	}
	var out []library
	for _, name := range order {
		out = append(out, all[at[name]])
	}
	_, ok := at[program]
	must(ok, api.ErrNone, "")
	last := all[at[program]]
	for _, name := range last.needs() {
		_, ok := at[name]
		must(ok, api.ErrNone, last.source)
	}
	return append(out, last)
}
