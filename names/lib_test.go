package names_test

import (
	"testing"

	"graftwood/api"
	"graftwood/names"
)

func isLib(t *testing.T, s api.Set, want string) {
	t.Helper()
	if got := names.Lib(s); got != want {
		t.Errorf("Lib is %q, not %q", got, want)
	}
}

func TestB1Lib(t *testing.T) {
	isLib(t, lib, "m")
	isLib(t, only(lib, "a"), "m")
	isLib(t, rename(prefix(except(only(lib, "a"), "b"), "c"), "d", "e"), "m")
	isLib(t, api.Set{}, "")
}

// A name is told as it is, Named or not, and of whichever set has no kids.
func TestB1LibOfAny(t *testing.T) {
	isLib(t, api.Set{Kind: api.SetLib, Name: "A b"}, "A b")
	for _, kind := range []int{-1, 0, api.SetOnly, api.SetExcept, api.SetPrefix, api.SetRename, 6} {
		isLib(t, api.Set{Kind: kind, Name: "x"}, "x")
		isLib(t, api.Set{Kind: kind, Name: "x", Kids: []api.Set{}}, "x")
		isLib(t, api.Set{Kind: kind, Name: "x", Kids: []api.Set{lib}}, "m")
		isLib(t, api.Set{Kind: kind, Name: "x", Kids: []api.Set{{Kind: kind, Name: "y"}, lib}}, "y")
	}
	isLib(t, api.Set{Kind: api.SetLib, Name: "x", Kids: []api.Set{lib}}, "x")
}

// It says nothing of MaxSet.
func TestB1LibDeep(t *testing.T) {
	for _, n := range []int{api.MaxSet - 1, api.MaxSet, api.MaxSet + 1, 1<<16 - 1, 1 << 16} {
		isLib(t, nested(lib, n), "m")
	}
}
