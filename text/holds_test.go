package text_test

import (
	"math/rand"
	"reflect"
	"testing"
	"unsafe"

	"graftwood/api"
	"graftwood/text"
)

// Z1: whatever bytes come, Read answers as the other reader does, and twice the same.
func TestZ1AnyText(t *testing.T) {
	r := rand.New(rand.NewSource(2))
	for range 20000 {
		b := make([]byte, r.Intn(40))
		for i := range b {
			b[i] = "(((())))'#tfaz09-. \t\n;A"[r.Intn(23)]
			if r.Intn(60) == 0 {
				b[i] = byte(r.Intn(256))
			}
		}
		asOther(t, string(b))
		asOther(t, string(b))
	}
}

// Z2: neither what is handed in nor its spare room is changed.
func TestZ2OnlyRead(t *testing.T) {
	make1 := func() []api.Datum {
		kids := append(make([]api.Datum, 0, 8), sym("a"), list(num(1)))
		l := append(make([]api.Datum, 0, 8), list(kids...), truth(1))
		l[0].Kids = kids
		for _, spare := range [][]api.Datum{l[len(l):cap(l)], kids[len(kids):cap(kids)]} {
			for i := range spare {
				spare[i] = sym("spare")
			}
		}
		return l
	}
	l := make1()
	text.Wrong(l)
	prints(t, "(a (1))\n#t\n", l...)
	if s, f := text.Print(l); s != "(a (1))\n#t\n" || f.Err != api.OK {
		t.Errorf("Print is %q %v", s, f)
	}
	want := make1()
	if !reflect.DeepEqual(l[:cap(l)], want[:cap(want)]) || !reflect.DeepEqual(l[0].Kids[:8], want[0].Kids[:8]) {
		t.Error("what was handed in was changed")
	}
}

// Z2: the lists that are read are the caller's, with their spare room, and no name is a piece of the text.
func TestZ2New(t *testing.T) {
	s := "(a b c) (d e f) 'g ((h) (i))"
	l, _ := text.Read(s)
	want, _ := text.Read(s)
	seen := map[*api.Datum]int{}
	from := uintptr(unsafe.Pointer(unsafe.StringData(s)))
	var walk func([]api.Datum)
	walk = func(l []api.Datum) {
		all := l[:cap(l)]
		for i := range all {
			seen[&all[i]]++
		}
		for _, d := range l {
			at := uintptr(unsafe.Pointer(unsafe.StringData(d.Name)))
			if d.Name != "" && at >= from && at < from+uintptr(len(s)) {
				t.Errorf("the name %s is a piece of the text", d.Name)
			}
			walk(d.Kids)
		}
	}
	walk(l)
	for p, n := range seen {
		if n > 1 {
			t.Errorf("%v is in %d lists", *p, n)
		}
		*p = api.Datum{}
	}
	if again, f := text.Read(s); f.Err != api.OK || !same(again, want) {
		t.Error("what was answered before is still looked at")
	}
}
