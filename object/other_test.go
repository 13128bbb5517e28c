package object_test

import (
	"encoding/binary"
	"fmt"
	"math/rand"
	"regexp"
	"slices"
	"strconv"
	"strings"
	"testing"

	"graftwood/api"
	"graftwood/code"
	"graftwood/expand"
	"graftwood/object"
	"graftwood/text"
)

var plainText = regexp.MustCompile(`^[ -~]{0,60}$`)

// otherWrong says what is wrong another way: of each procedure, from nothing, who makes it, and which are around.
func otherWrong(u api.Unit) api.Errno {
	if !plainText.MatchString(u.Name) {
		return api.ErrName
	}
	if n := len(u.Protos); n == 0 || n > api.MaxProtos {
		return api.ErrMany
	}
	for _, p := range u.Protos {
		if n := len(p.Code); n == 0 || n > api.MaxCode {
			return api.ErrMany
		}
		if p.Args < 0 || p.Args > api.MaxNodes {
			return api.ErrRange
		}
	}
	if u.Protos[0].Args != 0 {
		return api.ErrRange
	}
	for i, p := range u.Protos {
		if i > 0 && len(makers(u, i, i, 0)) == 0 {
			return api.ErrFit
		}
		for j := range p.Code {
			if err := otherIns(u, i, j); err != api.OK {
				return err
			}
		}
		if !otherWell(p.Code, i == 0) {
			return api.ErrFit
		}
	}
	return api.OK
}

// makers is the procedures ahead of an instruction, one for each IClosure there that makes the one with that number.
func makers(u api.Unit, number, i, j int) []int {
	var out []int
	for k, p := range u.Protos[:i+1] {
		for n, in := range p.Code {
			if in.Op == api.IClosure && in.A == number && (k < i || n < j) {
				out = append(out, k)
			}
		}
	}
	return out
}

// parameters is how many are around procedure i.
func parameters(u api.Unit, i int) int {
	n := 0
	for i > 0 {
		n += u.Protos[i].Args
		i = makers(u, i, i, 0)[0]
	}
	return n
}

func otherIns(u api.Unit, i, j int) api.Errno {
	in, end := u.Protos[i].Code[j], 0
	switch in.Op {
	case api.INum:
		if in.N > api.MaxInt || in.N < -api.MaxInt {
			return api.ErrRange
		}
		return api.OK
	case api.IBool:
		if in.N>>1 != 0 {
			return api.ErrRange
		}
		return api.OK
	case api.IQuote:
		_, f := text.Print([]api.Datum{in.Quote})
		if text.Wrong([]api.Datum{in.Quote}).Err == api.OK {
			f.Err = api.OK // too much, but not wrong
		}
		return f.Err
	case api.IGlobal, api.ISetGlobal, api.IDefine:
		if !plainText.MatchString(in.Lib) || !text.Named(in.Own) {
			return api.ErrName
		}
		return api.OK
	case api.IPrim:
		if !slices.Contains(expand.Prims(), in.Own) {
			return api.ErrName
		}
		return api.OK
	case api.IPop, api.IReturn:
		return api.OK
	case api.ILocal, api.ISetLocal:
		end = parameters(u, i)
	case api.IClosure:
		end = len(u.Protos)
		if in.A > i && in.A < end && len(makers(u, in.A, i, j)) > 0 {
			return api.ErrFit
		}
		if in.A == 0 || in.A <= i {
			return api.ErrRange
		}
	case api.ICall:
		end = 2001
	case api.IJump, api.IUnless:
		end = len(u.Protos[i].Code)
	default:
		return api.ErrKind
	}
	if in.A < 0 || in.A >= end {
		return api.ErrRange
	}
	return api.OK
}

// shapes is what stands behind each kind: n a number, q what is quoted, t a text, a a place.
var shapes = []string{"?", "n", "n", "q", "a", "tt", "t", "a", "a", "a", "a", "a", "tt", "tt", "", ""}

func otherBytes(u api.Unit) ([]byte, api.Errno) {
	if err := otherWrong(u); err != api.OK {
		return nil, err
	}
	for _, p := range u.Protos {
		for _, in := range p.Code {
			if _, f := text.Print([]api.Datum{in.Quote}); in.Op == api.IQuote && f.Err != api.OK {
				return nil, f.Err
			}
		}
	}
	if b := raw(u); len(b) <= api.MaxBytes {
		return b, api.OK
	}
	return nil, api.ErrMuch
}

// loose reads without minding how something is written, and panics where nothing can be read.
type loose struct{ b []byte }

func (l *loose) number() int {
	n, size := binary.Varint(l.b)
	if size <= 0 {
		panic(l)
	}
	l.b = l.b[size:]
	return int(n)
}

func (l *loose) text() string {
	n := l.number()
	s := string(l.b[:n])
	l.b = l.b[n:]
	return s
}

func (l *loose) unit() api.Unit {
	u := api.Unit{Name: l.text()}
	for n := l.number(); n != 0; n-- {
		p := api.Proto{Args: l.number()}
		for n := l.number(); n != 0; n-- {
			in := api.Ins{Op: l.number()}
			for _, c := range shapes[in.Op] {
				switch c {
				case '?':
					panic(l)
				case 'n':
					in.N = int64(l.number())
				case 'a':
					in.A = l.number()
				case 't':
					in.Lib, in.Own = in.Own, l.text()
				case 'q':
					d, _ := text.Read(l.text())
					in.Quote = d[0]
				}
			}
			p.Code = append(p.Code, in)
		}
		u.Protos = append(u.Protos, p)
	}
	return u
}

// raw is what u would be written as, whatever is wrong with it beside what is quoted.
func raw(u api.Unit) []byte {
	out := packed(u.Name, len(u.Protos))
	for _, p := range u.Protos {
		out = packed(out, p.Args, len(p.Code))
		for _, in := range p.Code {
			out = packed(out, in.Op)
			switch shapes[in.Op] {
			case "n":
				out = packed(out, int(in.N))
			case "a":
				out = packed(out, in.A)
			case "t":
				out = packed(out, in.Own)
			case "tt":
				out = packed(out, in.Lib, in.Own)
			case "q":
				s, _ := text.Print([]api.Datum{in.Quote})
				out = packed(out, s)
			}
		}
	}
	return out
}

// otherParse reads loosely, and looks whether just that would have been written.
func otherParse(b []byte) (u api.Unit, err api.Errno) {
	if len(b) > api.MaxBytes {
		return u, api.ErrMuch
	}
	defer func() {
		if p := recover(); p != nil {
			u, err = api.Unit{}, api.ErrForm
		}
	}()
	l := loose{b}
	got := l.unit()
	if len(l.b) > 0 || !slices.Equal(raw(got), b) {
		return u, api.ErrForm
	}
	if err := otherWrong(got); err != api.OK {
		return u, err
	}
	return got, api.OK
}

// chance makes units.
type chance struct{ *rand.Rand }

func (c chance) core(around, deep int) api.Core {
	kind := 4 + c.Intn(10)
	if deep <= 0 {
		kind = 1 + c.Intn(6)
	}
	if around == 0 && (kind == api.CLocal || kind == api.CSetLocal) {
		kind = api.CNum
	}
	out := api.Core{Kind: kind, N: c.Int63n(2), Own: []string{"x", "y"}[c.Intn(2)], Lib: []string{"m", "a b", ""}[c.Intn(3)]}
	switch kind {
	case api.CNum:
		out.N = (c.Int63n(1000) - 500) << c.Intn(38)
	case api.CQuote:
		out.Quote = []api.Datum{sym("a"), list(), list(sym("b"), list(sym("c"))), {Kind: api.DBool, N: 1}, {Kind: api.DNum, N: -7}}[c.Intn(5)]
	case api.CLocal, api.CSetLocal:
		out.Index = c.Intn(max(around, 1))
	case api.CPrim:
		out.Own = []string{"car", "+", "out"}[c.Intn(3)]
	case api.CLambda:
		out.Index = c.Intn(4)
		around += out.Index
	}
	n := map[int]int{api.CIf: 3, api.CLambda: 1, api.CSetLocal: 1, api.CSetGlobal: 1, api.CDefine: 1, api.CCall: 1 + c.Intn(4), api.CSeq: 1 + c.Intn(4)}[kind]
	for range n {
		out.Kids = append(out.Kids, c.core(around, deep-1))
	}
	return out
}

// unit is one that was compiled.
func (c chance) unit(t *testing.T) api.Unit {
	p := api.Part{Name: []string{"m", "", "a b"}[c.Intn(3)]}
	for range c.Intn(4) {
		p.Body = append(p.Body, c.core(0, 1+c.Intn(4)))
	}
	u, err := code.Compile(p)
	if err != api.OK {
		t.Fatalf("%v: %v", p, err)
	}
	return u
}

func (c chance) some(l ...int) int { return l[c.Intn(len(l))] }

// spoil changes something of u.
func (c chance) spoil(u *api.Unit) {
	p := &u.Protos[c.Intn(len(u.Protos))]
	if len(p.Code) == 0 {
		return
	}
	at := c.Intn(len(p.Code))
	in := &p.Code[at]
	near := c.some(in.A-1, in.A+1, c.Intn(len(p.Code)+2)-1, c.Intn(len(u.Protos)+2)-1)
	switch c.Intn(14) {
	case 0:
		in.Op = c.Intn(18) - 1
	case 1, 2, 3:
		in.A = near
	case 4:
		in.N = int64(c.some(0, 1, 2, -1, api.MaxInt, api.MaxInt+1, -api.MaxInt-1, -1<<63))
	case 5:
		in.Own = []string{"", "zz", "if", "cons", "5", strings.Repeat("a", 21)}[c.Intn(6)]
	case 6:
		in.Lib = []string{"", "\n", "é", strings.Repeat("a", 61)}[c.Intn(4)]
	case 7:
		in.Quote = []api.Datum{{}, sym("A"), sym("ok"), list(api.Datum{Kind: api.DBool, N: 2}), {Kind: api.DSym, Name: "a", Stamp: 1}, words(api.MaxText + 1)}[c.Intn(6)]
		in.Op = api.IQuote
	case 8:
		p.Code = slices.Delete(p.Code, at, at+1)
	case 9:
		p.Code = slices.Insert(p.Code, at, api.Ins{Op: 1 + c.Intn(15), A: near, Lib: "m", Own: "x"})
	case 10:
		p.Args = c.some(p.Args-1, p.Args+1, 0, 2000, 2001)
	case 11:
		u.Name = []string{"", "\n", strings.Repeat("a", 60), strings.Repeat("a", 61)}[c.Intn(4)]
	case 12:
		u.Protos = append(u.Protos, proto(c.Intn(3), num(1), ret))
	case 13:
		u.Protos = u.Protos[:c.Intn(len(u.Protos))+1]
	}
}

// asOther: Wrong and Bytes answer as the others do, and so does Parse, for what u is as bytes.
func asOther(t *testing.T, u api.Unit) api.Errno {
	t.Helper()
	want, wantErr := otherBytes(u)
	if err := object.Wrong(u); err != otherWrong(u) {
		t.Fatalf("%v: %v is wrong, not %v", u, err, otherWrong(u))
	}
	if b, err := object.Bytes(u); err != wantErr || !slices.Equal(b, want) {
		t.Fatalf("%v: its bytes are %v, %v, not %v, %v", u, b, err, want, wantErr)
	}
	return wantErr
}

func parsedAsOther(t *testing.T, b []byte) api.Errno {
	t.Helper()
	u, err := object.Parse(b)
	want, wantErr := otherParse(b)
	if err != wantErr || !same(u, want) {
		t.Fatalf("Parse of %v is %v, %v, not %v, %v", b, u, err, want, wantErr)
	}
	if again, _ := object.Bytes(u); err == api.OK && !slices.Equal(again, b) {
		t.Fatalf("%v comes of %v again", again, b)
	}
	return err
}

// I1 to I4: what the compiler makes is right; what is changed is as another way of doing it says.
func TestI1I2I3AsOther(t *testing.T) {
	c := chance{rand.New(rand.NewSource(9))}
	met := map[api.Errno]int{}
	for range 20000 {
		u := c.unit(t)
		if err := asOther(t, u); err != api.OK {
			t.Fatalf("%v: %v is wrong", u, err)
		}
		for range 1 + c.Intn(2) {
			c.spoil(&u)
		}
		met[asOther(t, u)]++
	}
	for _, err := range []api.Errno{api.OK, api.ErrKind, api.ErrRange, api.ErrMuch, api.ErrMany, api.ErrName, api.ErrFit} {
		if met[err] < 50 {
			t.Errorf("%v came %d times", err, met[err])
		}
	}
}

// I4: each unit that was compiled comes of its bytes again; others that are much like them are as another way of doing it says.
func TestI4AsOther(t *testing.T) {
	c := chance{rand.New(rand.NewSource(10))}
	met := map[api.Errno]int{}
	for range 12000 {
		b := right(t, c.unit(t))
		for range 12 {
			x := slices.Clone(b)
			for range 1 + c.Intn(2) {
				at := c.Intn(len(x))
				switch c.Intn(5) {
				case 0:
					x[at] = byte(c.Intn(256))
				case 1:
					x[at] ^= 1 << c.Intn(8)
				case 2:
					x[at] = byte(2 * c.Intn(17))
				case 3:
					x = slices.Insert(x, at, byte(c.some(0, 2, 30, 128, 255)))
				case 4:
					x = append(slices.Delete(x, at, at+1), 0)[:max(len(x)-1, 1)]
				}
			}
			met[parsedAsOther(t, x)]++
		}
	}
	for _, err := range []api.Errno{api.OK, api.ErrForm, api.ErrRange, api.ErrMany, api.ErrName, api.ErrFit} {
		if met[err] < 15 {
			t.Errorf("%v came %d times", err, met[err])
		}
	}
}

// I4: all bytes of a few, ahead of and behind what is right.
func TestI4AllShort(t *testing.T) {
	met := 0
	for a := range 256 {
		for b := range 256 {
			for _, x := range [][]byte{
				{byte(a), byte(b)}, {0, byte(a), byte(b), 2, 30}, {0, 2, 0, byte(a), byte(b)}, {0, 2, 0, 4, byte(a), byte(b)}, {0, 2, 0, 6, byte(a), byte(b), 28, 30},
				{0, 2, 0, 6, 6, 4, byte(a), byte(b), 28, 30}, {0, 2, 0, 6, 2, byte(a), byte(b), 28, 30}, {0, 4, 0, 6, 14, 2, 28, 30, byte(a), 4, 8, byte(b), 30},
			} {
				if parsedAsOther(t, x) == api.OK {
					met++
				}
			}
		}
	}
	if met < 500 {
		t.Errorf("only %d are right", met)
	}
}

// I4: no two units that differ have the same bytes.
func TestI4Apart(t *testing.T) {
	c := chance{rand.New(rand.NewSource(11))}
	units := map[string]string{}
	for range 20000 {
		u := c.unit(t)
		b, _ := object.Bytes(u)
		s := fmt.Sprint(strconv.Quote(u.Name), tidy(u))
		if was, ok := units[string(b)]; ok && was != s {
			t.Fatalf("%s and %s have the same bytes", was, s)
		}
		units[string(b)] = s
	}
	if len(units) < 5000 {
		t.Errorf("only %d units", len(units))
	}
}
