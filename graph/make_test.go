package graph_test

import (
	"fmt"
	"slices"
	"strings"
	"testing"

	"graftwood/api"
	"graftwood/graph"
)

// nodes reads "a:b,c b c": a needs b and c.
func nodes(s string) []api.Node {
	var out []api.Node
	for _, w := range strings.Fields(s) {
		name, needs, some := strings.Cut(w, ":")
		n := api.Node{Name: name}
		if some {
			n.Needs = strings.Split(needs, ",")
		}
		out = append(out, n)
	}
	return out
}

func numbered(i int) string { return fmt.Sprintf("n%07d", i) }

// brief tells a list, but for one that is too long to be looked at.
func brief[T any](l []T) string {
	if len(l) > 20 {
		return fmt.Sprintf("%d of them", len(l))
	}
	return fmt.Sprintf("%.40v", l)
}

func orders(t *testing.T, l, want string) {
	t.Helper()
	ordersAll(t, nodes(l), strings.Fields(want))
}

func ordersAll(t *testing.T, l []api.Node, want []string) {
	t.Helper()
	got, who, err := graph.Order(l)
	if err != api.OK || who != "" || !slices.Equal(got, want) {
		t.Errorf("Order(%s) is %s %q %v, not %s", brief(l), brief(got), who, err, brief(want))
	}
}

func fails(t *testing.T, l, want string, wrong api.Errno) {
	t.Helper()
	failsAll(t, nodes(l), want, wrong)
}

func failsAll(t *testing.T, l []api.Node, want string, wrong api.Errno) {
	t.Helper()
	got, who, err := graph.Order(l)
	if err != wrong || who != want || len(got) != 0 {
		t.Errorf("Order(%s) is %s %q %v, not %q %v", brief(l), brief(got), who, err, want, wrong)
	}
}
