package graph

import (
	"container/heap"
	"sort"
)

// ready are those that may stand next: the least one comes out first.
type ready struct{ sort.IntSlice }

func (r *ready) Push(x any) { r.IntSlice = append(r.IntSlice, x.(int)) }

func (r *ready) Pop() any {
	last := r.Len() - 1
	x := r.IntSlice[last]
	r.IntSlice = r.IntSlice[:last]
	return x
}

// order has each behind what it needs; it lacks those that need themselves, and those that need one of them.
func (w web) order() []int {
	r := &ready{}
	open := make([]int, len(w.names)) // how much of what it needs does not stand there yet
	for i, l := range w.needs {
		open[i] = len(l)
		if open[i] == 0 {
			heap.Push(r, i)
		}
	}
	var out []int
	for r.Len() > 0 {
		i := heap.Pop(r).(int)
		out = append(out, i)
		for _, k := range w.users[i] {
			open[k]--
			if open[k] == 0 {
				heap.Push(r, k)
			}
		}
	}
	return out
}
