package object

import (
	"slices"

	"graftwood/api"
	"graftwood/expand"
	"graftwood/text"
)

// plain tells whether a library may be called s.
func plain(s string) bool {
	if len(s) > api.MaxLibName {
		return false
	}
	for i := range len(s) {
		if s[i] < ' ' || s[i] > '~' {
			return false
		}
	}
	return true
}

// otherwise is err, if something is not as it must be.
func otherwise(is bool, err api.Errno) api.Errno {
	if is {
		return api.OK
	}
	return err
}

// below is what is wrong with n, if it must be from 0 to less than end.
func below(n, end int) api.Errno {
	return otherwise(0 <= n && n < end, api.ErrRange)
}

// wrongName is what is wrong with an instruction about a global that has a name.
func wrongName(in *api.Ins) api.Errno {
	return otherwise(plain(in.Lib) && text.Named(in.Own), api.ErrName)
}

// standing is what is known of a procedure so far.
type standing struct {
	body   bool
	placed bool // it is a body, or an IClosure makes it
	around int  // how many parameters are around its code, its own among them
}

// checker goes through procedures, in their order, and so through what makes one ahead of it.
type checker struct {
	protos []api.Proto
	known  []standing
	prims  []string
	global func(in *api.Ins) api.Errno // what is wrong with an instruction about a global
}

func wrongProtos(l []api.Proto, bodies []int, global func(in *api.Ins) api.Errno) api.Errno {
	for i := range l {
		if err := wrongSize(&l[i]); err != api.OK {
			return err
		}
	}
	c := checker{protos: l, known: make([]standing, len(l)), prims: expand.Prims(), global: global}
	for _, number := range bodies {
		if err := c.body(number); err != api.OK {
			return err
		}
	}
	for number := range l {
		if err := c.proto(number); err != api.OK {
			return err
		}
	}
	return api.OK
}

// wrongSize is what is wrong with a procedure, whatever its instructions are.
func wrongSize(p *api.Proto) api.Errno {
	if len(p.Code) < 1 || len(p.Code) > api.MaxCode {
		return api.ErrMany
	}
	return below(p.Args, api.MaxNodes+1)
}

func (c *checker) body(number int) api.Errno {
	if err := below(number, len(c.protos)); err != api.OK {
		return err
	}
	c.known[number] = standing{body: true, placed: true}
	return otherwise(c.protos[number].Args == 0, api.ErrRange)
}

func (c *checker) proto(number int) api.Errno {
	if !c.known[number].placed {
		return api.ErrFit
	}
	l := c.protos[number].Code
	for i := range l {
		if err := c.ins(number, &l[i]); err != api.OK {
			return err
		}
	}
	return otherwise(usesStackWell(l, c.known[number].body), api.ErrFit)
}

// ins is what is wrong with an instruction of the procedure with that number.
func (c *checker) ins(number int, in *api.Ins) api.Errno {
	switch in.Op {
	case api.INum:
		return otherwise(-api.MaxInt <= in.N && in.N <= api.MaxInt, api.ErrRange)
	case api.IBool:
		return otherwise(in.N == 0 || in.N == 1, api.ErrRange)
	case api.IQuote:
		return text.Wrong([]api.Datum{in.Quote}).Err
	case api.ILocal, api.ISetLocal:
		return below(in.A, c.known[number].around)
	case api.IGlobal, api.ISetGlobal, api.IDefine:
		return c.global(in)
	case api.IPrim:
		return otherwise(slices.Contains(c.prims, in.Own), api.ErrName)
	case api.IClosure:
		return c.closure(number, in.A)
	case api.ICall:
		return below(in.A, api.MaxNodes+1)
	case api.IJump, api.IUnless:
		return below(in.A, len(c.protos[number].Code))
	case api.IPop, api.IReturn:
		return api.OK
	}
	return api.ErrKind
}

// closure is what is wrong with making a procedure out of another one; if nothing is, it has its place there.
func (c *checker) closure(from, number int) api.Errno {
	if number <= from || number >= len(c.protos) {
		return api.ErrRange
	}
	if c.known[number].placed {
		return api.ErrFit
	}
	c.known[number] = standing{placed: true, around: c.known[from].around + c.protos[number].Args}
	return api.OK
}
