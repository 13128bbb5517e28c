package value

import (
	"math/bits"
	"testing"
)

// hops is how many frames are gone through, from f on, to the one that has the parameter that so many are nearer than.
func (f *Frame) hops(nearer int) int {
	n, at := 0, f.At(nearer)
	for {
		for i := range f.params {
			if &f.params[i] == at {
				return n
			}
		}
		n++
		if nearer >= f.count-f.far.count {
			nearer -= f.count - f.far.count
			f = f.far
		} else {
			nearer -= f.count - f.around.count
			f = f.around
		}
	}
}

// However many frames there are, few are gone through.
func TestFrameFar(t *testing.T) {
	f := &Frame{}
	for range 20000 {
		f = f.With(make([]Value, 1))
		for _, nearer := range []int{f.count - 1, f.count / 2, f.count / 3, min(5, f.count-1)} {
			if n := f.hops(nearer); n > 3*bits.Len(uint(f.count)) {
				t.Fatalf("%d of %d frames are gone through", n, f.count)
			}
		}
	}
}
