package text_test

import (
	"reflect"
	"testing"
	"unsafe"

	"graftwood/api"
	"graftwood/text"
)

// Bare leaves out what Read would not have made, and shares nothing.
func TestBare(t *testing.T) {
	full := func(kind int) api.Datum {
		return api.Datum{Kind: kind, N: 7, Name: "abc", Stamp: 3, Lib: 4, Kids: []api.Datum{{Kind: api.DNum, N: 5, Name: "x"}}}
	}
	want := map[int]api.Datum{
		api.DNum:  {Kind: api.DNum, N: 7},
		api.DBool: {Kind: api.DBool, N: 7},
		api.DSym:  {Kind: api.DSym, Name: "abc"},
		api.DList: {Kind: api.DList, Kids: []api.Datum{{Kind: api.DNum, N: 5}}},
		9:         {Kind: 9},
	}
	for kind, w := range want {
		if got := text.Bare(full(kind)); !reflect.DeepEqual(got, w) {
			t.Errorf("%v comes, not %v", got, w)
		}
	}
	l, _ := text.Read("(a (b 1) #t 'c ())")
	got := text.Bare(l[0])
	if !reflect.DeepEqual(got, l[0]) {
		t.Errorf("%v comes of %v", got, l[0])
	}
	if &got.Kids[0] == &l[0].Kids[0] || unsafe.StringData(got.Kids[0].Name) == unsafe.StringData(l[0].Kids[0].Name) {
		t.Error("what comes shares memory")
	}
}
