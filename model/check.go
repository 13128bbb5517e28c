package model

import (
	"graftwood/api"
	"graftwood/text"
	"graftwood/value"
)

func wrongPart(p api.Part) api.Errno {
	if len(p.Body) > api.MaxBody {
		return api.ErrMany
	}
	for i := range p.Body {
		var c checker
		if err := c.core(&p.Body[i], 1, 0); err != api.OK {
			return err
		}
	}
	return api.OK
}

// checker has gone through so many nodes of an expression.
type checker struct {
	nodes int
}

// core ends whatever c is, even if it is among its own kids: it goes no deeper than MaxNest, and to no more than MaxCore.
func (k *checker) core(c *api.Core, deep, around int) api.Errno {
	k.nodes++
	if k.nodes > api.MaxCore || deep > api.MaxNest {
		return api.ErrMuch
	}
	if err := wrongKids(c.Kind, len(c.Kids)); err != api.OK {
		return err
	}
	if err := wrongFields(c, around); err != api.OK {
		return err
	}
	if c.Kind == api.CLambda {
		around += c.Index
	}
	for i := range c.Kids {
		if err := k.core(&c.Kids[i], deep+1, around); err != api.OK {
			return err
		}
	}
	return api.OK
}

// wrongKids is what is wrong with a node of that kind, with so many kids.
func wrongKids(kind, kids int) api.Errno {
	var fit bool
	switch kind {
	case api.CNum, api.CBool, api.CQuote, api.CLocal, api.CGlobal, api.CPrim:
		fit = kids == 0
	case api.CLambda, api.CSetLocal, api.CSetGlobal, api.CDefine:
		fit = kids == 1
	case api.CIf:
		fit = kids == 3
	case api.CCall, api.CSeq:
		fit = kids >= 1
	default:
		return api.ErrKind
	}
	if !fit {
		return api.ErrMany
	}
	return api.OK
}

// wrongFields is what is wrong with a node beside its kids, where so many parameters are around.
func wrongFields(c *api.Core, around int) api.Errno {
	fit := true
	switch c.Kind {
	case api.CNum:
		fit = value.InRange(c.N)
	case api.CBool:
		fit = c.N == 0 || c.N == 1
	case api.CLocal, api.CSetLocal:
		fit = 0 <= c.Index && c.Index < around
	case api.CLambda:
		fit = 0 <= c.Index && c.Index <= api.MaxNodes
	case api.CPrim:
		if value.Args(c.Own) == 0 {
			return api.ErrName
		}
	case api.CQuote:
		return text.Wrong([]api.Datum{c.Quote}).Err
	}
	if !fit {
		return api.ErrRange
	}
	return api.OK
}
