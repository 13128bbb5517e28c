package object_test

import (
	"fmt"
	"strings"
	"testing"

	"graftwood/api"
	"graftwood/object"
)

// well: a body of s uses its stack so.
func well(t *testing.T, s string) {
	t.Helper()
	judged(t, "0: "+s, api.OK)
}

// ill: a body of s does not use its stack well.
func ill(t *testing.T, s string) {
	t.Helper()
	judged(t, "0: "+s, api.ErrFit)
}

// inner is a body, and a procedure of one parameter.
func inner(s string) string { return "0: fn1 pop ret | 1: " + s }

// kinds is each kind, with how many it takes, and whether it puts one.
var kinds = []struct {
	w     string
	takes int
	puts  bool
}{
	{"5", 0, true}, {"#1", 0, true}, {"'a", 0, true}, {"@0", 0, true}, {"m.x", 0, true}, {"car", 0, true}, {"fn2", 0, true},
	{"call0", 1, true}, {"call1", 2, true}, {"call5", 6, true}, {"set@0", 1, true}, {"set:m.x", 1, true}, {"def:m.x", 1, true}, {"pop", 1, false},
}

// I3: each kind at each height: how much it takes, and how much it leaves.
func TestI3Kinds(t *testing.T) {
	for _, k := range kinds {
		for height := range 9 {
			for pops := range 12 {
				s := strings.Repeat("7 ", height) + k.w + strings.Repeat(" pop", pops) + " ret"
				left := height - k.takes - pops
				if k.puts {
					left++
				}
				want := api.ErrFit
				if height >= k.takes && left == 1 {
					want = api.OK
				}
				rest := ""
				if k.w == "fn2" {
					rest = " | 0: 1 ret"
				}
				judged(t, inner(s)+rest, want)
			}
		}
	}
}

func TestI3Return(t *testing.T) {
	well(t, "ret")
	ill(t, "5 ret")
	ill(t, "5 6 pop ret")
	well(t, "5 pop ret")
	judged(t, inner("ret"), api.ErrFit)
	judged(t, inner("5 ret"), api.OK)
	judged(t, inner("5 6 ret"), api.ErrFit)
	judged(t, inner("5 pop ret"), api.ErrFit)
	// More than one.
	judged(t, inner("#1 unless4 5 ret 6 ret"), api.OK)
	judged(t, inner("#1 unless4 5 ret 6 7 ret"), api.ErrFit)
	judged(t, inner("#1 unless5 5 6 ret 7 ret"), api.ErrFit)
	well(t, "#1 unless3 ret 7 pop ret")
	ill(t, "#1 unless3 ret 7 ret")
}

// I3: each instruction goes on to another one, but IReturn.
func TestI3End(t *testing.T) {
	ill(t, "5")
	ill(t, "5 pop")
	ill(t, "ret 5 pop")
	ill(t, "#1 unless2 5 pop")
	ill(t, "#1 unless0")
	ill(t, "to0")
	ill(t, "5 pop to0")
	for _, k := range kinds {
		if k.w != "fn2" {
			judged(t, inner(strings.Repeat("7 ", 8)+k.w), api.ErrFit)
			judged(t, inner("to2 ret"+strings.Repeat(" 7", 8)+" "+k.w), api.ErrFit)
		}
	}
}

// I3: what nothing ahead comes to is wrong, wherever it stands.
func TestI3Met(t *testing.T) {
	ill(t, "ret ret")
	ill(t, "ret pop ret")
	ill(t, "to2 5 ret")
	ill(t, "to2 ret ret")
	ill(t, "to3 5 pop ret")
	ill(t, "#1 unless5 to5 6 pop ret")
	well(t, "#1 unless3 to4 to4 ret")
	// One that is come to from behind alone.
	ill(t, "to3 ret to1 to2")
	ill(t, "to3 5 to4 to1 ret")
}

func TestI3Heights(t *testing.T) {
	well(t, "#1 unless4 5 to5 6 pop ret")
	ill(t, "#1 unless4 5 to6 6 pop ret")
	ill(t, "#1 unless4 to5 5 6 pop ret")
	ill(t, "#1 unless3 5 pop ret")
	ill(t, "#1 unless3 5 6 pop pop ret")
	well(t, "#1 unless4 5 pop ret")
	ill(t, "5 #1 unless4 pop pop ret")
	well(t, "5 #1 unless4 to4 pop ret")
	well(t, "5 #1 unless3 pop to5 ret")
	ill(t, "5 #1 unless4 pop to5 ret")
	// By three ways.
	well(t, "#1 unless4 5 to9 #1 unless8 6 to9 7 pop ret")
	ill(t, "#1 unless4 5 to9 #1 unless8 6 to10 7 pop ret")
	ill(t, "#1 unless4 5 to10 #1 unless8 6 to9 7 pop ret")
}

// I3: jumps go onwards, if only to the next one.
func TestI3Onwards(t *testing.T) {
	well(t, "to1 ret")
	well(t, "to1 to2 to3 ret")
	well(t, "#1 unless2 ret")
	ill(t, "to0 ret")
	ill(t, "#1 unless1 ret")
	ill(t, "#1 unless0 ret")
	ill(t, "5 pop #1 unless0 ret")
	ill(t, "5 pop #1 unless3 ret")
	ill(t, "#1 unless3 to0 ret")
	ill(t, "to1 to1 ret")
	ill(t, "#1 unless3 to4 to2 ret")
	// What IUnless takes is gone on both ways.
	ill(t, "unless1 ret")
	ill(t, "to1 unless2 ret")
	ill(t, "#1 unless3 pop ret")
	ill(t, "#1 unless3 to4 pop ret")
}

// I3: what lies there counts, not how much there is in all.
func TestI3Takes(t *testing.T) {
	well(t, "car 1 call1 pop ret")
	ill(t, "car call1 pop ret")
	well(t, "car 1 2 3 call2 call1 pop ret")
	ill(t, "car 1 2 3 call2 call2 pop ret")
	ill(t, "pop 1 ret")
	ill(t, "1 pop pop 1 ret")
	ill(t, "call0 pop ret")
	ill(t, "1 pop set:m.x pop ret")
	long := append(append(times(2001, num(1)), with(api.ICall, 2000)), pop, ret)
	right(t, alone(long...))
	wrong(t, alone(long[1:]...), api.ErrFit)
	high := append(append(times(api.MaxCode/2-1, num(1)), with(api.IJump, api.MaxCode/2)), times(api.MaxCode/2-1, pop)...)
	right(t, alone(append(high, ret)...))
}

// ways goes along all ways of a procedure, backwards, too, and notes with which heights each place is come to.
type ways struct {
	code []api.Ins
	met  map[[2]int]bool
	ill  bool
	last int
}

func (w *ways) go1(place, height int) {
	if place >= len(w.code) || height < 0 {
		w.ill = true
		return
	}
	if height > len(w.code) || w.met[[2]int{place, height}] {
		return
	}
	w.met[[2]int{place, height}] = true
	in := w.code[place]
	switch in.Op {
	case api.IReturn:
		w.ill = w.ill || height != w.last
	case api.IJump:
		w.ill = w.ill || in.A <= place
		w.go1(in.A, height)
	case api.IUnless:
		w.ill = w.ill || in.A <= place
		w.go1(in.A, height-1)
		w.go1(place+1, height-1)
	case api.IPop:
		w.go1(place+1, height-1)
	case api.ICall:
		w.ill = w.ill || height <= in.A
		w.go1(place+1, height-in.A)
	case api.ISetLocal, api.ISetGlobal, api.IDefine:
		w.ill = w.ill || height == 0
		w.go1(place+1, height)
	default:
		w.go1(place+1, height+1)
	}
}

// otherWell tells whether a procedure, with whose instructions nothing is wrong, uses its stack well.
func otherWell(code []api.Ins, body bool) bool {
	w := ways{code: code, met: map[[2]int]bool{}, last: 1}
	if body {
		w.last = 0
	}
	w.go1(0, 0)
	places := map[int]int{}
	for at := range w.met {
		places[at[0]]++
	}
	for place := range code {
		if places[place] != 1 {
			return false
		}
	}
	return !w.ill
}

// I3: all short procedures, as another way of doing it.
func TestI3AsOther(t *testing.T) {
	met := 0
	for size := 1; size <= 5; size++ {
		words := strings.Fields("5 pop call0 call1 set:m.x ret")
		for a := range size {
			words = append(words, fmt.Sprint("to", a), fmt.Sprint("unless", a))
		}
		var all []api.Ins
		for _, w := range words {
			all = append(all, instruction(w))
		}
		code := make([]api.Ins, size)
		var fill func(at int)
		fill = func(at int) {
			if at < size {
				for _, in := range all {
					code[at] = in
					fill(at + 1)
				}
				return
			}
			for i, u := range []api.Unit{alone(code...), unit(proto(0, with(api.IClosure, 1), pop, ret), proto(0, code...))} {
				want := api.ErrFit
				if otherWell(code, i == 0) {
					want = api.OK
					met++
				}
				if err := object.Wrong(u); err != want {
					t.Fatalf("%v: %v is wrong, not %v", u, err, want)
				}
			}
		}
		fill(0)
	}
	if met < 150 {
		t.Errorf("only %d of them use their stack well", met)
	}
}
