package value_test

import (
	"math/rand"
	"testing"

	"graftwood/value"
)

// numbers is so many values, from one on.
func numbers(from, n int) []value.Value {
	out := make([]value.Value, n)
	for i := range out {
		out[i] = value.Number(from + i)
	}
	return out
}

func TestFrameNearest(t *testing.T) {
	f := (&value.Frame{}).With(numbers(10, 3)).With(numbers(20, 1)).With(nil).With(numbers(30, 2))
	for nearer, want := range []value.Number{31, 30, 20, 12, 11, 10} {
		if got := *f.At(nearer); got != want {
			t.Errorf("at %d stands %v, not %v", nearer, got, want)
		}
	}
}

// Two calls where the same parameters are around have those in common, and their own to themselves.
func TestFrameShared(t *testing.T) {
	outer := (&value.Frame{}).With(numbers(1, 2))
	a, b := outer.With(numbers(5, 1)), outer.With(numbers(6, 1))
	*a.At(0), *a.At(2) = value.Number(7), value.Number(8)
	for f, want := range map[*value.Frame][]value.Number{outer: {2, 8}, a: {7, 2, 8}, b: {6, 2, 8}} {
		for nearer, n := range want {
			if got := *f.At(nearer); got != n {
				t.Errorf("at %d stands %v, not %v", nearer, got, n)
			}
		}
	}
}

func TestFrameNone(t *testing.T) {
	f := &value.Frame{}
	if f.With(nil) != f || f.With([]value.Value{}) != f {
		t.Error("a frame without parameters was made")
	}
}

// However many frames there are, of whatever size, each parameter is where it was put.
func TestFrameMany(t *testing.T) {
	c := rand.New(rand.NewSource(11))
	for range 30 {
		f, count := &value.Frame{}, 0
		for range c.Intn(1500) {
			n := c.Intn(4)
			f = f.With(numbers(count, n))
			count += n
			if count == 0 {
				continue
			}
			for range 3 {
				place := c.Intn(count)
				if got := *f.At(count - 1 - place); got != value.Number(place) {
					t.Fatalf("of %d parameters %v stands at %d", count, got, place)
				}
			}
		}
		for place := range count {
			if got := *f.At(count - 1 - place); got != value.Number(place) {
				t.Fatalf("of %d parameters %v stands at %d", count, got, place)
			}
		}
	}
}
