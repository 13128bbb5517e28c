package object_test

import (
	"encoding/binary"
	"slices"
	"strings"
	"testing"

	"graftwood/api"
	"graftwood/object"
)

// packed is numbers, texts behind how many bytes they have, and bytes as they are, one behind the other.
func packed(l ...any) []byte {
	var out []byte
	for _, x := range l {
		switch x := x.(type) {
		case int:
			out = binary.AppendVarint(out, int64(x))
		case string:
			out = append(binary.AppendVarint(out, int64(len(x))), x...)
		case []byte:
			out = append(out, x...)
		default:
			panic(x)
		}
	}
	return out
}

// around is the bytes of valued, of one instruction.
func around(l ...any) []byte {
	return packed("m", 1, 0, 3, packed(l...), api.IPop, api.IReturn)
}

// written: the bytes of u are want, and u comes of them again.
func written(t *testing.T, u api.Unit, want []byte) {
	t.Helper()
	if b := right(t, u); !slices.Equal(b, want) {
		t.Errorf("%s has bytes %s, not %s", brief(u), brief(b), brief(want))
	}
}

func TestI4Numbers(t *testing.T) {
	for n, want := range map[int64][]byte{
		0: {0}, -1: {1}, 1: {2}, -2: {3}, 2: {4}, 63: {126}, -64: {127}, 64: {128, 1}, -65: {129, 1}, 300: {216, 4}, -300: {215, 4},
		8191: {254, 127}, -8192: {255, 127}, 8192: {128, 128, 1}, -8193: {129, 128, 1}, 1 << 20: {128, 128, 128, 1},
		api.MaxInt: {128, 128, 180, 204, 212, 223, 198, 3}, -api.MaxInt: {255, 255, 179, 204, 212, 223, 198, 3},
	} {
		written(t, valued(num(n)), slices.Concat([]byte{2, 'm', 2, 0, 6, 2}, want, []byte{28, 30}))
	}
}

func TestI4Kinds(t *testing.T) {
	written(t, valued(num(5)), []byte{2, 'm', 2, 0, 6, 2, 10, 28, 30})
	written(t, valued(boolean(0)), []byte{2, 'm', 2, 0, 6, 4, 0, 28, 30})
	written(t, valued(boolean(1)), []byte{2, 'm', 2, 0, 6, 4, 2, 28, 30})
	written(t, valued(quote(list(sym("a"), list(), api.Datum{Kind: api.DBool, N: 1}))), around([]byte{6, 20}, []byte("(a () #t)\n")))
	written(t, valued(quote(list(sym("quote"), sym("b")))), around(api.IQuote, "(quote b)\n"))
	written(t, valued(of(api.IGlobal, "a b", "xy")), around([]byte{10, 6, 'a', ' ', 'b', 4, 'x', 'y'}))
	written(t, valued(of(api.IGlobal, "", "xy")), around([]byte{10, 0, 4, 'x', 'y'}))
	written(t, valued(prim("car")), around([]byte{12, 6, 'c', 'a', 'r'}))
	written(t, alone(num(1), of(api.IDefine, "m", "x"), of(api.ISetGlobal, "n", "y"), pop, ret), []byte{2, 'm', 2, 0, 10, 2, 2, 26, 2, 'm', 2, 'x', 24, 2, 'n', 2, 'y', 28, 30})
	written(t, unit(procedures("0: fn1 pop ret | 3: @2 set@1 ret")...), []byte{2, 'm', 4, 0, 6, 14, 2, 28, 30, 6, 6, 8, 4, 22, 2, 30})
	written(t, unit(procedures("0: #0 unless4 3 to6 car call0 pop ret")...), []byte{2, 'm', 2, 0, 16, 4, 0, 20, 8, 2, 6, 18, 12, 12, 6, 'c', 'a', 'r', 16, 0, 28, 30})
}

// I4: a unit's name, procedures and parameters.
func TestI4Units(t *testing.T) {
	written(t, api.Unit{Protos: procedures("0: ret")}, []byte{0, 2, 0, 2, 30})
	written(t, api.Unit{Name: "a b", Protos: procedures("0: ret")}, []byte{6, 'a', ' ', 'b', 2, 0, 2, 30})
	long := strings.Repeat("~", api.MaxLibName)
	written(t, api.Unit{Name: long, Protos: procedures("0: ret")}, packed(long, 1, 0, 1, api.IReturn))
	written(t, unit(procedures("0: fn1 pop ret | 2000: fn2 ret | 64: @2063 ret")...),
		packed("m", 3, 0, 3, api.IClosure, 1, api.IPop, api.IReturn, 2000, 2, api.IClosure, 2, api.IReturn, 64, 2, api.ILocal, 2063, api.IReturn))
	written(t, alone(filled(64, ret)...), packed("m", 1, 0, []byte{128, 1}, api.IJump, 1, slices.Repeat([]byte{2, 2, 28}, 31), api.IReturn))
	full := many(api.MaxProtos)
	if b := right(t, full); !slices.Equal(b[:5], packed("m", api.MaxProtos, 0)) {
		t.Errorf("many procedures begin with %v", b[:5])
	}
}

// words is a quoted list that Print writes with so many bytes (30 at least), its line feed among them.
func words(size int) api.Datum {
	d := list()
	for left := size - 2; left > 0; {
		n := min(api.MaxName, left-1)
		if left-1-n == 1 {
			n-- // a word has one letter at least
		}
		d.Kids = append(d.Kids, sym(strings.Repeat("a", n)))
		left -= n + 1
	}
	return d
}

// I4: what is quoted has no more bytes than Print writes.
func TestI4Quote(t *testing.T) {
	for _, n := range []int{30, 63, 64, 65, 1000, api.MaxText - 1, api.MaxText} {
		b := right(t, valued(quote(words(n))))
		if size := len(around(api.IQuote, n)) + n; len(b) != size {
			t.Errorf("%d bytes come, not %d", len(b), size)
		}
	}
	full := list(slices.Repeat([]api.Datum{sym(strings.Repeat("a", api.MaxName))}, api.MaxNodes-1)...)
	for _, d := range []api.Datum{words(api.MaxText + 1), words(api.MaxText + 2), full} {
		much(t, valued(quote(d)))
		much(t, valued(num(1), pop, quote(d)))
	}
}

// much: nothing is wrong with u, but it has too many bytes.
func much(t *testing.T, u api.Unit) {
	t.Helper()
	if err := object.Wrong(u); err != api.OK {
		t.Errorf("%s: %v is wrong", brief(u), err)
	}
	if b, err := object.Bytes(u); err != api.ErrMuch || b != nil {
		t.Errorf("%s: its bytes are %s, %v", brief(u), brief(b), err)
	}
}

// large is a unit of so many bytes.
func large(size int) api.Unit {
	var l []api.Ins
	left := size - len(packed("m", 1, 0, 1000, api.IReturn))
	for left > 6100 {
		l = append(l, quote(words(5996)), pop)
		left -= 6000 // IQuote, how many, and IPop are four
	}
	for left%3 > 0 {
		l = append(l, num(64), pop)
		left -= 4
	}
	return alone(append(append(l, times(left/3, num(0), pop)...), ret)...)
}

func TestI4MaxBytes(t *testing.T) {
	for _, n := range []int{api.MaxBytes - 2, api.MaxBytes - 1, api.MaxBytes} {
		if b := right(t, large(n)); len(b) != n {
			t.Errorf("%d bytes come, not %d", len(b), n)
		}
	}
	for _, n := range []int{api.MaxBytes + 1, api.MaxBytes + 2, 2 * api.MaxBytes} {
		much(t, large(n))
	}
	// Many short procedures are much, too.
	u := many(api.MaxProtos)
	for i := range u.Protos[1:] {
		u.Protos[i+1].Code = filled(100, with(api.ILocal, 0), ret)
	}
	much(t, u)
	// What is wrong is told ahead of it.
	over := large(api.MaxBytes + 1)
	last := &over.Protos[0].Code[len(over.Protos[0].Code)-2]
	*last = prim("zz")
	wrong(t, over, api.ErrName)
	wrong(t, valued(quote(words(api.MaxText+1)), boolean(2)), api.ErrRange)
}

// I4: bytes of which no unit is written.
func TestI4Form(t *testing.T) {
	refused(t, nil, api.ErrForm)
	refused(t, []byte{}, api.ErrForm)
	good := [][]byte{
		right(t, valued(num(300))), right(t, valued(quote(list(sym("a"))))), right(t, api.Unit{Protos: procedures("0: ret")}),
		right(t, unit(procedures("0: fn1 pop #0 unless6 3 to7 4 pop ret | 3: car @2 call1 set@1 pop m.x set:m.x def:m.y ret")...)),
	}
	for _, b := range good {
		for n := range b {
			refused(t, b[:n], api.ErrForm)
		}
		for _, more := range []byte{0, 1, 30, 128, 255} {
			refused(t, append(slices.Clip(b), more), api.ErrForm)
		}
		refused(t, slices.Concat(b, b), api.ErrForm)
	}
}

// I4: numbers are as short as can be, and have 64 bits at most.
func TestI4FormNumbers(t *testing.T) {
	right := func(b []byte) { // it is the number of INum
		t.Helper()
		if _, err := object.Parse(around(api.INum, b)); err != api.OK {
			t.Errorf("%v: %v", b, err)
		}
	}
	right([]byte{0})
	right([]byte{127})
	right([]byte{128, 1})
	ten := []byte{255, 255, 255, 255, 255, 255, 255, 255, 255, 1}
	for _, l := range []struct {
		b    []byte
		want api.Errno
	}{
		{[]byte{128, 0}, api.ErrForm}, {[]byte{129, 0}, api.ErrForm}, {[]byte{255, 128, 0}, api.ErrForm}, {[]byte{128, 128, 128, 128, 128, 128, 128, 128, 128, 0}, api.ErrForm},
		{ten, api.ErrRange},                                 // the least one there is
		{ten[1:], api.ErrRange},                             // -2^56
		{slices.Concat([]byte{254}, ten[1:]), api.ErrRange}, // the greatest one
		{slices.Concat(ten[:9], []byte{2}), api.ErrForm}, {slices.Concat(ten[:9], []byte{3}), api.ErrForm}, {slices.Concat(ten[:9], []byte{127}), api.ErrForm},
		{slices.Concat(ten[:9], []byte{128}), api.ErrForm}, {slices.Concat(ten[:9], []byte{129, 0}), api.ErrForm}, {slices.Concat(ten[:9], []byte{129, 1}), api.ErrForm},
		{slices.Concat(ten[:9], ten), api.ErrForm}, {slices.Repeat([]byte{128}, 50), api.ErrForm}, {slices.Repeat([]byte{255}, 50), api.ErrForm},
	} {
		refused(t, around(api.INum, l.b), l.want)
		refused(t, around(api.IBool, l.b), l.want)
		refused(t, around(api.ILocal, l.b), l.want)
		refused(t, packed("m", 1, l.b, 1, api.IReturn), l.want)
		// As how many of something, and as a kind, none of them is right.
		refused(t, around(l.b), api.ErrForm)
		refused(t, packed(l.b, "m", 1, 0, 1, api.IReturn), api.ErrForm)
		refused(t, packed("m", l.b, 0, 1, api.IReturn), api.ErrForm)
		refused(t, packed("m", 1, 0, l.b, api.IReturn), api.ErrForm)
		refused(t, around(api.IPrim, l.b, []byte("car")), api.ErrForm)
	}
	// What is written with too many bytes, where all else is right.
	for _, b := range [][]byte{
		packed([]byte{130, 0}, []byte("m"), 1, 0, 1, api.IReturn), packed("m", []byte{130, 0}, 0, 1, api.IReturn), packed("m", 1, []byte{128, 0}, 1, api.IReturn),
		packed("m", 1, 0, []byte{130, 0}, api.IReturn), packed("m", 1, 0, 1, []byte{158, 0}),
	} {
		refused(t, b, api.ErrForm)
	}
}

// I4: how many things come is not below 0, nor more than how many bytes are left.
func TestI4FormCounts(t *testing.T) {
	for _, n := range []int{-1, -2, 4, 5, 1 << 20, 1 << 40, 1<<63 - 1, -1 << 63} {
		refused(t, packed(n, []byte("m"), 1), api.ErrForm)
		refused(t, packed("m", n, 0, 1, api.IReturn), api.ErrForm)
		refused(t, packed("m", 1, 0, n, api.IReturn, api.IReturn, api.IReturn), api.ErrForm)
		refused(t, packed("m", 1, 0, 1, api.IPrim, n, []byte("car")), api.ErrForm)
		refused(t, packed("m", 1, 0, 1, api.IQuote, n, []byte("aa\n")), api.ErrForm)
		refused(t, packed("m", 1, 0, 1, api.IGlobal, n, []byte("m"), "x"), api.ErrForm)
		refused(t, packed("m", 1, 0, 1, api.IGlobal, "m", n, []byte("x")), api.ErrForm)
	}
	refused(t, packed("m", 3, 0, 1, api.IReturn), api.ErrForm)
	refused(t, packed("m", 2, 0, 1, api.IReturn), api.ErrForm)
	refused(t, packed("m", 1, 0, 1, api.IReturn, api.IReturn), api.ErrForm)
	refused(t, packed("m", 0, 0, 1, api.IReturn), api.ErrForm)
}

func TestI4FormKinds(t *testing.T) {
	for _, op := range []int{0, 16, 17, -1, -15, 1 << 40, 1<<63 - 1, -1 << 63} {
		refused(t, around(op), api.ErrForm)
		refused(t, around(op, 0), api.ErrForm)
	}
	// It is told ahead of what else is wrong.
	refused(t, packed("\n", 1, 0, 1, 16), api.ErrForm)
	refused(t, packed("\n", 1, 0, 1, api.IReturn, 0), api.ErrForm)
}

// I4: what is quoted is written as Print writes it, and else not at all.
func TestI4FormQuote(t *testing.T) {
	for _, s := range []string{"a\n", "()\n", "(quote a)\n", "(a (b) -5 #t)\n", "0\n", "-1000000000000000\n", "#f\n", strings.Repeat("a", api.MaxName) + "\n"} {
		if u, err := object.Parse(around(api.IQuote, s)); err != api.OK || len(u.Protos[0].Code) != 3 {
			t.Errorf("%q: %v, %v", s, u, err)
		}
	}
	for _, s := range []string{
		"", "\n", "a", "a\n\n", "\na\n", " a\n", "a \n", "a\t\n", "a b\n", "a\nb\n", "a\nb", "'a\n", "( )\n", "(a  b)\n", "(a\nb)\n", "(a b )\n", "(a b", "a)\n", ")\n",
		"007\n", "-0\n", "-007\n", "#true\n", "#t", "#\n", ";\n", "a;\n", "a ;\n", ";a\na\n", "A\n", "\xff\n", "\x00\n",
		// Of what is wrong nothing is written.
		"1000000000000001\n", "-1000000000000001\n", strings.Repeat("a", api.MaxName+1) + "\n",
		strings.Repeat("(", api.MaxDeep+1) + strings.Repeat(")", api.MaxDeep+1) + "\n",
		"(" + strings.Repeat("a ", api.MaxNodes-1) + "a)\n",
		"(" + strings.Repeat("aaaaaaaaa ", api.MaxText/10) + "a)\n",
	} {
		refused(t, around(api.IQuote, s), api.ErrForm)
	}
	right(t, valued(quote(deep(api.MaxDeep))))
}

// I4: what is well written, and wrong.
func TestI4ParseWrong(t *testing.T) {
	for _, l := range []struct {
		b    []byte
		want api.Errno
	}{
		{packed("\n", 1, 0, 1, api.IReturn), api.ErrName},
		{packed("\xff", 0), api.ErrName},
		{packed(strings.Repeat("a", api.MaxLibName+1), 1, 0, 1, api.IReturn), api.ErrName},
		{packed("", 0), api.ErrMany},
		{packed("m", 0), api.ErrMany},
		{packed("m", api.MaxProtos+1, slices.Repeat([]byte{0, 2, 30}, api.MaxProtos+1)), api.ErrMany},
		{packed("m", 1, 0, 0), api.ErrMany},
		{packed("m", 1, 0, api.MaxCode+1, slices.Repeat([]byte{30}, api.MaxCode+1)), api.ErrMany},
		{packed("m", 1, 1, 1, api.IReturn), api.ErrRange},
		{packed("m", 1, -1, 1, api.IReturn), api.ErrRange},
		{packed("m", 1, 1<<63-1, 1, api.IReturn), api.ErrRange},
		{packed("m", 1, -1<<63, 1, api.IReturn), api.ErrRange},
		{packed("m", 2, 0, 1, api.IReturn, 0, 1, api.IReturn), api.ErrFit},
		{packed("m", 1, 0, 1, api.IPop), api.ErrFit},
		{around(api.INum, api.MaxInt+1), api.ErrRange},
		{around(api.IBool, -1), api.ErrRange},
		{around(api.ILocal, 0), api.ErrRange},
		{around(api.ISetLocal, -1), api.ErrRange},
		{around(api.IGlobal, "\n", "x"), api.ErrName},
		{around(api.IGlobal, "m", ""), api.ErrName},
		{around(api.IDefine, "m", "5"), api.ErrName},
		{around(api.ISetGlobal, "m", "x"), api.ErrFit},
		{around(api.IPrim, "if"), api.ErrName},
		{around(api.IPrim, ""), api.ErrName},
		{around(api.IClosure, 0), api.ErrRange},
		{around(api.IClosure, 1), api.ErrRange},
		{around(api.ICall, -1), api.ErrRange},
		{around(api.ICall, 0), api.ErrFit},
		{around(api.IJump, 3), api.ErrRange},
		{around(api.IUnless, -1), api.ErrRange},
		{around(api.IPop), api.ErrFit},
		{around(api.IReturn), api.ErrFit},
	} {
		refused(t, l.b, l.want)
	}
}

func TestI4ParseMuch(t *testing.T) {
	for _, b := range [][]byte{make([]byte, api.MaxBytes+1), slices.Repeat([]byte{255}, api.MaxBytes+1), make([]byte, 1<<20)} {
		refused(t, b, api.ErrMuch)
		refused(t, b[:api.MaxBytes], api.ErrForm)
	}
	full := right(t, large(api.MaxBytes))
	refused(t, append(full, 0), api.ErrMuch)
}
