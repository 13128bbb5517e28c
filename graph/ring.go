package graph

import "slices"

// leastInRing is the least one that needs itself; where none does, it is as many as there are.
// Who needs a ring is not in it for that: so rings are told apart by going along the needs, and then back along the users.
func (w web) leastInRing() int {
	least := len(w.names)
	gather := gatherer(w.users)
	for _, i := range slices.Backward(left(w.needs)) {
		ring := gather(i)
		if len(ring) > 1 || len(ring) == 1 && slices.Contains(w.needs[i], i) {
			least = min(least, slices.Min(ring))
		}
	}
	return least
}

// left has all in the order in which a walk along the ways, from each one on, leaves them for good.
// It keeps its path itself, as a call within a call would be too deep for long chains.
func left(ways [][]int) []int {
	var out, path []int
	gone := make([]int, len(ways)) // how many of its ways were gone
	met := make([]bool, len(ways))
	enter := func(i int) {
		if !met[i] {
			met[i] = true
			path = append(path, i)
		}
	}
	for i := range ways {
		enter(i)
		for len(path) > 0 {
			at := path[len(path)-1]
			if k := gone[at]; k < len(ways[at]) {
				gone[at]++
				enter(ways[at][k])
				continue
			}
			path = path[:len(path)-1]
			out = append(out, at)
		}
	}
	return out
}

// gatherer gathers what one leads to (and itself), but nothing that was gathered ahead.
func gatherer(ways [][]int) func(int) []int {
	met := make([]bool, len(ways))
	return func(from int) []int {
		var out []int
		enter := func(i int) {
			if !met[i] {
				met[i] = true
				out = append(out, i)
			}
		}
		enter(from)
		for n := 0; n < len(out); n++ {
			for _, k := range ways[out[n]] {
				enter(k)
			}
		}
		return out
	}
}
