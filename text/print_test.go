package text_test

import (
	"math/rand"
	"strings"
	"testing"

	"graftwood/api"
	"graftwood/text"
)

func prints(t *testing.T, want string, l ...api.Datum) {
	t.Helper()
	s, f := text.Print(l)
	if f != fault(api.OK, 0) || s != want {
		t.Errorf("Print(%s) is %s %v, not %s", brief(l), brief(s), f, brief(want))
	}
}

func TestA4Print(t *testing.T) {
	prints(t, "")
	prints(t, "a\n", sym("a"))
	prints(t, "0\n12\n-12\n", num(0), num(12), num(-12))
	prints(t, "1000000000000000\n-1000000000000000\n", num(api.MaxInt), num(-api.MaxInt))
	prints(t, "#t\n#f\n", truth(1), truth(0))
	prints(t, "()\n", list())
	prints(t, "(())\n", list(list()))
	prints(t, "(a)\n", list(sym("a")))
	prints(t, "(a (b -3 #f) () c)\n(d)\n", list(sym("a"), list(sym("b"), num(-3), truth(0)), list(), sym("c")), list(sym("d")))
	prints(t, "(quote b)\n", quoted(sym("b")))
	prints(t, strings.Repeat("1\n", api.MaxNodes), repeat(num(1), api.MaxNodes)...)
	prints(t, open(api.MaxDeep)+shut(api.MaxDeep)+"\n", nested(api.MaxDeep))
}

// The document's first example.
func TestA4Example(t *testing.T) {
	l, f := text.Read("(a 'b #t)")
	if f.Err != api.OK {
		t.Fatal(f)
	}
	prints(t, "(a (quote b) #t)\n", l...)
}

func TestA4OtherFieldsPrinted(t *testing.T) {
	bad := data(api.Datum{Kind: 9})
	prints(t, "7\n", api.Datum{Kind: api.DNum, N: 7, Name: "A b", Stamp: 1, Kids: bad})
	prints(t, "#f\n", api.Datum{Kind: api.DBool, Name: "A b", Lib: 1, Kids: bad})
	prints(t, "a\n", api.Datum{Kind: api.DSym, N: 7, Name: "a", Kids: bad})
	prints(t, "(a)\n", api.Datum{Kind: api.DList, N: 7, Name: "A b", Stamp: 1, Kids: data(sym("a"))})
}

// Of MaxText bytes all are told; of one more none.
func TestA4PrintMuch(t *testing.T) {
	long := sym(strings.Repeat("a", 19))
	l := repeat(long, api.MaxText/20)
	prints(t, strings.Repeat(long.Name+"\n", len(l)), l...)
	for _, more := range []api.Datum{num(1), list(), long} {
		s, f := text.Print(append(repeat(long, len(l)), more))
		if s != "" || f != fault(api.ErrMuch, 0) {
			t.Errorf("Print is %s %v", brief(s), f)
		}
	}
	l[len(l)-1] = sym(long.Name + "a")
	if s, f := text.Print(l); s != "" || f != fault(api.ErrMuch, 0) {
		t.Errorf("Print is %s %v", brief(s), f)
	}
	says(t, l, api.OK, 0)
}

// What is wrong comes ahead of what is too long.
func TestA4PrintWrongAndMuch(t *testing.T) {
	l := repeat(sym(strings.Repeat("a", api.MaxName)), 1000)
	says(t, append(l, truth(2)), api.ErrRange, 1000)
}

// What is written is read.
func TestPrintedIsRead(t *testing.T) {
	r := rand.New(rand.NewSource(1))
	for range 3000 {
		var l []api.Datum
		for range r.Intn(5) {
			l = append(l, anyDatum(r, 6))
		}
		s, f := text.Print(l)
		if f.Err == api.ErrMuch {
			continue
		}
		got, g := text.Read(s)
		if f.Err != api.OK || g != f || !same(got, l) {
			t.Fatalf("Print(%s) is %s %v, and is read as %s %v", brief(l), brief(s), f, brief(got), g)
		}
		if again, h := text.Print(got); again != s || h != f {
			t.Fatalf("%s is written again as %s %v", brief(s), brief(again), h)
		}
	}
}

func anyDatum(r *rand.Rand, deep int) api.Datum {
	kind := api.DNum + r.Intn(4)
	switch {
	case kind == api.DNum:
		return num((r.Int63n(2*api.MaxInt+1) - api.MaxInt) >> r.Intn(50))
	case kind == api.DBool:
		return truth(r.Int63n(2))
	case kind == api.DSym || deep == 0:
		return sym(anyName(r))
	}
	var kids []api.Datum
	for range r.Intn(6) {
		kids = append(kids, anyDatum(r, deep-1))
	}
	return list(kids...)
}

func anyName(r *rand.Rand) string {
	for {
		var b []byte
		for range 1 + r.Intn(api.MaxName) {
			b = append(b, letters[r.Intn(len(letters))])
		}
		if text.Named(string(b)) {
			return string(b)
		}
	}
}
