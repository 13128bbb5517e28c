package names_test

import (
	"slices"
	"testing"

	"graftwood/api"
	"graftwood/names"
)

func TestB3Merge(t *testing.T) {
	merges(t, "", "")
	merges(t, "b=m.x a=m.y", "a=m.y b=m.x")
	merges(t, "a=m.x a=m.x", "a=m.x")
	merges(t, "b=m.x a=m.x b=m.x c=n.x a=m.x", "a=m.x b=m.x c=n.x")
	merges(t, "aa=m.x a=m.x a-=m.x b=m.x", "a=m.x a-=m.x aa=m.x b=m.x")
}

// Names are not held against anything but each other.
func TestB3AnyName(t *testing.T) {
	l := []api.Bind{{Here: "A b", Lib: "\x00", Own: "12"}, {}, {Here: "A b", Lib: "\x00", Own: "12"}, {}}
	got, f := names.Merge(l)
	if f != (api.Fault{}) || !slices.Equal(got, []api.Bind{l[1], l[0]}) {
		t.Errorf("Merge is %v %v", got, f)
	}
}

func TestB3Fit(t *testing.T) {
	mergeFails(t, binds("a=m.x a=n.x"), api.ErrFit, 1)
	mergeFails(t, binds("a=m.x a=m.y"), api.ErrFit, 1)
	mergeFails(t, binds("a=m.x b=m.x a=m.x b=m.y a=n.z"), api.ErrFit, 3)
	mergeFails(t, binds("b=m.x a=m.x c=m.x a=m.c"), api.ErrFit, 3)
	mergeFails(t, []api.Bind{{}, {Own: "x"}}, api.ErrFit, 1)
}

func bindsOf(n int) []api.Bind {
	var out []api.Bind
	for _, s := range many(n) {
		out = append(out, api.Bind{Here: s, Lib: "m", Own: s})
	}
	return out
}

func TestB3Many(t *testing.T) {
	full := bindsOf(api.MaxNames)
	twice := append(slices.Clone(full), full...)
	slices.Reverse(twice)
	got, f := names.Merge(twice)
	if f != (api.Fault{}) || !slices.Equal(got, full) {
		t.Errorf("Merge is %v %v", got, f)
	}
	mergeFails(t, bindsOf(api.MaxNames+1), api.ErrMany, api.MaxNames)
	more := api.Bind{Here: "a", Lib: "m", Own: "a"}
	mergeFails(t, append(slices.Clone(twice), more), api.ErrMany, 2*api.MaxNames)
	mergeFails(t, append(slices.Clone(full), full[3], more, api.Bind{Here: full[0].Here}), api.ErrMany, api.MaxNames+1)
	mergeFails(t, append(slices.Clone(full), api.Bind{Here: full[7].Here}, more), api.ErrFit, api.MaxNames)
}
