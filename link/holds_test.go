package link_test

import (
	"reflect"
	"strings"
	"sync"
	"testing"
	"unsafe"

	"graftwood/api"
	"graftwood/link"
)

// Z1: what is among its own kids is too deep, or too much.
func TestZ1OwnKid(t *testing.T) {
	d := list(sym("a"), sym("b"))
	d.Kids[1] = d
	failsAll(t, []api.Unit{alone("k"), alone("m", api.Ins{Op: api.IQuote, Quote: d}, pop)}, api.ErrMuch, 1)
	// What is no list has nothing in it, and what is no IQuote nothing quoted.
	odd := sym("a")
	odd.Kids = []api.Datum{d}
	other := num(1)
	other.Quote = d
	givesAll(t, []api.Unit{alone("m", api.Ins{Op: api.IQuote, Quote: odd}, pop, other, pop)}, image("", "0: 'a pop 1 pop ret", 0))
}

// Z1: units may be the same memory.
func TestZ1Shared(t *testing.T) {
	u := alone("m", num(1), pop)
	l := []api.Unit{u, u, u}
	l[1].Name, l[2].Name = "n", ""
	givesAll(t, l, image("", "0: 1 pop ret | 0: 1 pop ret | 0: 1 pop ret", 0, 1, 2))
	alike := map[unsafe.Pointer]int{}
	im := linked(t, l)
	for _, p := range im.Protos {
		alike[unsafe.Pointer(&p.Code[0])]++
	}
	if len(alike) != 3 {
		t.Error("procedures share their code")
	}
}

// given is units with spare room everywhere, in which something stands, and all texts of their own.
func given() []api.Unit {
	l := units("mm = 0: fn1 def:mm.ff pop #1 unless7 '(aa,(bb,(cc),aa),1,#t) to8 'sym pop mm.ff 3 call1 def:mm.xx set:mm.xx pop ret | 1: car @0 call1 set@0 ret\nnn = 0: fn1 pop ret | 0: car mm.xx call1 def:nn.xx ret")
	for i := range l {
		for j := range l[i].Protos {
			code := l[i].Protos[j].Code
			for k := range code {
				in := &code[k]
				in.Lib, in.Own, in.Quote = strings.Clone(in.Lib), strings.Clone(in.Own), spared(in.Quote)
			}
			l[i].Protos[j].Code = roomy(code, of(api.IDefine, "zz", "zz"))
		}
		l[i].Name = strings.Clone(l[i].Name)
		l[i].Protos = roomy(l[i].Protos, api.Proto{Args: 5})
	}
	return roomy(l, alone("mm"))
}

func givenWant() api.Image {
	return image("mm.ff mm.xx nn.xx", "0: fn1 def0 pop #1 unless7 '(aa,(bb,(cc),aa),1,#t) to8 'sym pop get0 3 call1 def1 set1 pop ret | 1: car @0 call1 set@0 ret | 0: fn3 pop ret | 0: car get1 call1 def2 ret", 0, 2)
}

// roomy is l with spare room behind it, in which what stands.
func roomy[T any](l []T, what T) []T {
	out := append(make([]T, 0, len(l)+3), l...)
	for i := len(l); i < cap(out); i++ {
		out[:cap(out)][i] = what
	}
	return out
}

func spared(d api.Datum) api.Datum {
	for i, k := range d.Kids {
		d.Kids[i] = spared(k)
	}
	if d.Kind == api.DList {
		d.Kids = roomy(d.Kids, sym("zz"))
	}
	d.Name = strings.Clone(d.Name)
	return d
}

// room is v with the spare room of each list in it, as a text; met is told where each list and text in it begins.
func room(v reflect.Value, met func(at unsafe.Pointer)) string {
	var out []string
	switch v.Kind() {
	case reflect.Slice:
		if v.Cap() > 0 {
			met(v.UnsafePointer())
		}
		all := v.Slice(0, v.Cap())
		for i := range all.Len() {
			out = append(out, room(all.Index(i), met))
		}
	case reflect.Struct:
		for i := range v.NumField() {
			out = append(out, room(v.Field(i), met))
		}
	case reflect.String:
		if s := v.String(); len(s) > 1 { // Go has all texts of one byte ready
			met(unsafe.Pointer(unsafe.StringData(s)))
		}
		return v.String()
	case reflect.Int, reflect.Int64:
		return string(rune('0' + v.Int()%100))
	}
	return "[" + strings.Join(out, " ") + "]"
}

// Z2: neither what is handed in nor its spare room is changed, or looked at.
func TestZ2OnlyRead(t *testing.T) {
	l := given()
	was := room(reflect.ValueOf(l), func(unsafe.Pointer) {})
	givesAll(t, l, givenWant())
	// What is wrong with the last unit, and with what it speaks of.
	failsAll(t, l[:3], api.ErrName, 2)
	failsAll(t, l[1:2], api.ErrName, 0)
	if room(reflect.ValueOf(l), func(unsafe.Pointer) {}) != was {
		t.Error("what was handed in was changed")
	}
}

// Z2: an image shares nothing with the units, and no two lists or texts in it share anything.
func TestZ2New(t *testing.T) {
	l := given()
	own := map[unsafe.Pointer]int{}
	note := func(at unsafe.Pointer) { own[at]++ }
	im := linked(t, l)
	room(reflect.ValueOf(im), note)
	if len(own) != 23 {
		t.Errorf("there are %d lists and texts", len(own))
	}
	room(reflect.ValueOf(l), func(at unsafe.Pointer) {
		if own[at] > 0 {
			t.Error("the image shares memory with the units")
		}
	})
	room(reflect.ValueOf(linked(t, l)), note)
	for _, n := range own {
		if n > 1 {
			t.Error("what is answered shares memory")
		}
	}
	// It stays, when the caller changes what was handed in.
	for i := range l {
		for _, p := range l[i].Protos {
			for _, in := range p.Code {
				clear(in.Quote.Kids)
			}
			clear(p.Code)
		}
	}
	clear(l)
	if !same(im, givenWant()) {
		t.Errorf("what was answered is changed: %v", im)
	}
}

// Z1, Z2: nothing is kept, so that calls do not touch each other; no answer hangs on how a map is gone through.
func TestZ2AtOnce(t *testing.T) {
	l, bad := given(), given()
	bad[1].Protos[0].Code[0] = of(api.IGlobal, "zz", "zz")
	bad[1].Protos = bad[1].Protos[:1]
	var all sync.WaitGroup
	got := make([]api.Image, 8)
	for i := range got {
		all.Go(func() {
			for range 20 {
				failsAll(t, bad, api.ErrName, 1)
				got[i], _ = link.Link(l)
			}
		})
	}
	all.Wait()
	for _, im := range got {
		if !same(im, givenWant()) {
			t.Errorf("one of several calls: %v", im)
		}
	}
}

// Z3: nil and a list without entries are the same.
func TestZ3Empty(t *testing.T) {
	for _, none := range [][]api.Unit{nil, {}} {
		givesAll(t, none, api.Image{})
	}
	for _, none := range [][]api.Proto{nil, {}} {
		failsAll(t, []api.Unit{alone("k"), {Protos: none}}, api.ErrMany, 1)
	}
	for _, none := range [][]api.Ins{nil, {}} {
		failsAll(t, []api.Unit{alone("k"), {Protos: []api.Proto{{Code: none}}}}, api.ErrMany, 1)
	}
	for _, none := range [][]api.Datum{nil, {}} {
		givesAll(t, []api.Unit{alone("m", api.Ins{Op: api.IQuote, Quote: list(none...)}, pop)}, image("", "0: '() pop ret", 0))
	}
}
