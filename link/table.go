package link

import (
	"slices"
	"strings"

	"graftwood/api"
	"graftwood/object"
)

// global is what one is called.
type global struct {
	lib, own string
}

func globalOf(in *api.Ins) global {
	return global{lib: in.Lib, own: in.Own}
}

// table is the globals that units define, by their numbers, and their numbers.
type table struct {
	binds   []api.Bind
	numbers map[global]int
}

// define takes in what l defines, or tells what is wrong with a unit, whatever those behind it are.
func (t *table) define(l []api.Unit) api.Fault {
	return unitByUnit(l, func(number int) api.Errno {
		u := &l[number]
		if err := object.Wrong(*u); err != api.OK {
			return err
		}
		if slices.ContainsFunc(l[:number], func(ahead api.Unit) bool { return ahead.Name == u.Name }) {
			return api.ErrName
		}
		return insByIns(u, func(in *api.Ins) api.Errno {
			if in.Op != api.IDefine {
				return api.OK
			}
			if in.Lib != u.Name {
				return api.ErrSet
			}
			t.add(globalOf(in))
			return api.OK
		})
	})
}

// add gives g a number, if it has none.
func (t *table) add(g global) {
	if _, ok := t.numbers[g]; ok {
		return
	}
	t.numbers[g] = len(t.binds)
	t.binds = append(t.binds, api.Bind{Lib: strings.Clone(g.lib), Own: strings.Clone(g.own)})
}

// wrongUses can only be told when all that l defines is in the table: a unit may use what one behind it defines.
func (t *table) wrongUses(l []api.Unit) api.Fault {
	return unitByUnit(l, func(number int) api.Errno {
		u := &l[number]
		return insByIns(u, func(in *api.Ins) api.Errno { return t.wrongUse(u.Name, in) })
	})
}

// wrongUse is what is wrong with an instruction of the unit with that name.
func (t *table) wrongUse(name string, in *api.Ins) api.Errno {
	switch in.Op {
	case api.IGlobal, api.ISetGlobal:
		if _, ok := t.numbers[globalOf(in)]; !ok {
			return api.ErrName
		}
		if in.Op == api.ISetGlobal && in.Lib != name {
			return api.ErrSet
		}
	}
	return api.OK
}
