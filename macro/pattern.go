package macro

import (
	"graftwood/api"
	"graftwood/text"
)

// What a variable stands for.
const (
	one  = 1
	many = 2
)

// variables tell of each variable of a pattern whether it stands for one or for many.
type variables map[string]int

// patternOf needs a rule that begins as it must: what it begins with is in no pattern.
func patternOf(r api.Rule) []api.Datum {
	return r.Pat.Kids[1:]
}

func wrongRule(lits literals, r api.Rule) api.Errno {
	if f := text.Wrong([]api.Datum{r.Pat, r.Tmpl}); f.Err != api.OK {
		return f.Err
	}
	if r.Pat.Kind != api.DList || len(r.Pat.Kids) == 0 || r.Pat.Kids[0].Kind != api.DSym || isDots(r.Pat.Kids[0]) {
		return api.ErrForm
	}
	vars, err := variablesOf(lits, patternOf(r))
	if err != api.OK {
		return err
	}
	if !vars.right(r.Tmpl, false) {
		return api.ErrForm
	}
	return api.OK
}

// variablesOf are the variables of a pattern, or what is wrong with it.
func variablesOf(lits literals, pattern []api.Datum) (variables, api.Errno) {
	vars := variables{}
	return vars, vars.list(lits, pattern, one)
}

// list puts in what the things of a list have, each of them standing for what the list does, if no dots stand behind it.
func (v variables) list(lits literals, l []api.Datum, stands int) api.Errno {
	for i, d := range l {
		if isDots(d) {
			if i == 0 || i < len(l)-1 {
				return api.ErrForm
			}
			continue
		}
		now := stands
		if dotsBehind(l, i) {
			now = many
			if stands == many {
				return api.ErrForm
			}
		}
		if err := v.thing(lits, d, now); err != api.OK {
			return err
		}
	}
	return api.OK
}

func (v variables) thing(lits literals, d api.Datum, stands int) api.Errno {
	if d.Kind == api.DList {
		return v.list(lits, d.Kids, stands)
	}
	if !lits.isVariable(d) {
		return api.OK
	}
	if v[d.Name] != 0 {
		return api.ErrName
	}
	v[d.Name] = stands
	return api.OK
}
