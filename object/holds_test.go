package object_test

import (
	"reflect"
	"slices"
	"strings"
	"sync"
	"testing"
	"unsafe"

	"graftwood/api"
	"graftwood/object"
)

// Z1: what is among its own kids is too deep, or too much.
func TestZ1OwnKid(t *testing.T) {
	d := list(sym("a"), sym("b"))
	d.Kids[1] = d
	wide := list(make([]api.Datum, 50)...)
	for i := range wide.Kids {
		wide.Kids[i] = wide
	}
	wrong(t, valued(quote(d)), api.ErrMuch)
	wrong(t, valued(quote(wide)), api.ErrMuch)
	// What is no list has nothing in it, and what is no IQuote nothing quoted.
	odd := sym("a")
	odd.Kids = []api.Datum{d}
	other := num(1)
	other.Quote = d
	for _, in := range []api.Ins{quote(odd), other} {
		if b, err := object.Bytes(valued(in)); err != api.OK || len(b) < 9 {
			t.Errorf("%v, %v", b, err)
		}
	}
}

// Z1: as much as there may be ends, and what is far more than may be written is not written to its end.
func TestZ1Long(t *testing.T) {
	long := quote(words(api.MaxText))
	much(t, alone(filled(api.MaxCode, append(times(2000, long, pop), ret)...)...))
	u := many(api.MaxProtos)
	for i := range u.Protos[1:] {
		u.Protos[i+1].Code = filled(api.MaxCode, with(api.ILocal, 0), ret)
	}
	much(t, u)
	// A chain as long as there may be, each with as many parameters as there may be.
	chain := unit(proto(0, with(api.IClosure, 1), pop, ret))
	for i := 2; i < api.MaxProtos; i++ {
		chain.Protos = append(chain.Protos, proto(api.MaxNodes, with(api.IClosure, i), ret))
	}
	last := (api.MaxProtos - 1) * api.MaxNodes
	chain.Protos = append(chain.Protos, proto(api.MaxNodes, with(api.ILocal, last-1), ret))
	right(t, chain)
	chain.Protos[api.MaxProtos-1].Code[0].A = last
	wrong(t, chain, api.ErrRange)
}

// Z1: whatever the bytes are, Parse ends, and makes no room for what they only speak of.
func TestZ1Claims(t *testing.T) {
	b := packed("m", 29000)
	for len(b)+2 <= api.MaxBytes {
		b = append(b, 0, 0)
	}
	refused(t, b, api.ErrForm)
	refused(t, packed("m", 59990, make([]byte, 59990)), api.ErrForm)
	refused(t, packed("m", 1, 0, 59980, make([]byte, 59980)), api.ErrForm)
	refused(t, packed("m", 1, 0, 59980, slices.Repeat([]byte{30}, 59980)), api.ErrMany)
	refused(t, packed("m", 29990, slices.Repeat([]byte{0, 0}, 29990)), api.ErrMany)
}

// given is a unit with spare room everywhere, in which something stands, and all texts of its own.
func given() api.Unit {
	l := procedures("0: fn1 def:mm.ff pop #1 unless7 '(aa(bb(cc)aa)1#t) to8 'sym pop mm.ff 3 call1 set:mm.xx pop ret | 1: car @0 call1 set@0 ret")
	for i := range l {
		for j := range l[i].Code {
			in := &l[i].Code[j]
			in.Lib, in.Own, in.Quote = strings.Clone(in.Lib), strings.Clone(in.Own), spared(in.Quote)
		}
		l[i].Code = roomy(l[i].Code, pop)
	}
	return api.Unit{Name: strings.Clone("a b"), Protos: roomy(l, proto(5))}
}

// roomy is l with spare room behind it, in which what stands.
func roomy[T any](l []T, what T) []T {
	out := append(make([]T, 0, len(l)+3), l...)
	for i := len(l); i < cap(out); i++ {
		out[:cap(out)][i] = what
	}
	return out
}

func spared(d api.Datum) api.Datum {
	for i, k := range d.Kids {
		d.Kids[i] = spared(k)
	}
	if d.Kind == api.DList {
		d.Kids = roomy(d.Kids, sym("zz"))
	}
	d.Name = strings.Clone(d.Name)
	return d
}

// room is v with the spare room of each list in it, as a text; met is told where each list and text in it begins.
func room(v reflect.Value, met func(at unsafe.Pointer)) string {
	var out []string
	switch v.Kind() {
	case reflect.Slice:
		if v.Cap() > 0 {
			met(v.UnsafePointer())
		}
		all := v.Slice(0, v.Cap())
		for i := range all.Len() {
			out = append(out, room(all.Index(i), met))
		}
	case reflect.Struct:
		for i := range v.NumField() {
			out = append(out, room(v.Field(i), met))
		}
	case reflect.String:
		if s := v.String(); len(s) > 1 { // Go has all texts of one byte ready
			met(unsafe.Pointer(unsafe.StringData(s)))
		}
		return v.String()
	case reflect.Int, reflect.Int64:
		return string(rune('0' + v.Int()%100))
	}
	return "[" + strings.Join(out, " ") + "]"
}

// Z2: neither what is handed in nor its spare room is changed, or looked at; what is answered is the caller's own.
func TestZ2OnlyRead(t *testing.T) {
	u := given()
	was := room(reflect.ValueOf(u), func(unsafe.Pointer) {})
	b := right(t, u)
	object.WrongNumbered(u.Protos, []int{0}, 5)
	if room(reflect.ValueOf(u), func(unsafe.Pointer) {}) != was {
		t.Error("what was handed in was changed")
	}
	// Bytes stay, when the caller changes what was handed in, and another answer.
	want := slices.Clone(b)
	other, _ := object.Bytes(u)
	clear(other[:cap(other)])
	for i := range u.Protos {
		clear(u.Protos[i].Code)
	}
	if !slices.Equal(b, want) {
		t.Error("the bytes are changed")
	}
}

// Z2: a unit shares nothing with the bytes that it comes of, and no two lists in it share anything.
func TestZ2New(t *testing.T) {
	good, _ := object.Bytes(given())
	b := roomy(good, 77)
	handed := slices.Clone(b[:cap(b)])
	u, err := object.Parse(b)
	if err != api.OK || !slices.Equal(b[:cap(b)], handed) {
		t.Errorf("the bytes were changed, or %v", err)
	}
	from := uintptr(unsafe.Pointer(&b[0]))
	own := map[unsafe.Pointer]bool{}
	room(reflect.ValueOf(u), func(at unsafe.Pointer) {
		if n := uintptr(at); own[at] || n >= from && n < from+uintptr(cap(b)) {
			t.Error("what is answered shares memory")
		}
		own[at] = true
	})
	if len(own) < 19 {
		t.Errorf("only %d lists and texts", len(own))
	}
	clear(b[:cap(b)])
	if !same(u, api.Unit{Name: "a b", Protos: given().Protos}) {
		t.Errorf("what was answered is changed: %v", u)
	}
}

// Z1, Z2: nothing is kept, so that calls do not touch each other.
func TestZ2AtOnce(t *testing.T) {
	u := given()
	want := right(t, u)
	var all sync.WaitGroup
	got := make([]api.Unit, 8)
	for i := range got {
		all.Go(func() {
			b, _ := object.Bytes(u)
			if !slices.Equal(b, want) {
				t.Errorf("one of several calls: %v", b)
			}
			got[i], _ = object.Parse(want)
		})
	}
	all.Wait()
	for _, x := range got {
		if !same(x, u) {
			t.Errorf("one of several calls: %v", x)
		}
	}
}

// Z3: nil and a list without entries are the same.
func TestZ3Empty(t *testing.T) {
	for _, none := range [][]api.Datum{nil, {}} {
		written(t, valued(quote(list(none...))), around(api.IQuote, "()\n"))
		x := num(1)
		x.Quote.Kids = none
		if b, _ := object.Bytes(valued(x)); !slices.Equal(b, around(api.INum, 1)) {
			t.Errorf("%v comes", b)
		}
	}
	for _, none := range [][]api.Proto{nil, {}} {
		wrong(t, api.Unit{Protos: none}, api.ErrMany)
		if err := object.WrongNumbered(none, []int{}, 0); err != api.OK {
			t.Errorf("%v is wrong", err)
		}
	}
	for _, none := range [][]api.Ins{nil, {}} {
		wrong(t, alone(none...), api.ErrMany)
	}
	for _, none := range [][]byte{nil, {}} {
		refused(t, none, api.ErrForm)
	}
}
