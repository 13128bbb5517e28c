package lib

import (
	"strings"

	"graftwood/api"
)

// things is what a list has that must have something.
func things(d api.Datum) []api.Datum {
	must(d.Kind == api.DList && len(d.Kids) > 0, api.ErrForm)
	return d.Kids
}

// form is the name that a list must begin with, and what stands behind it.
func form(d api.Datum) (string, []api.Datum) {
	l := things(d)
	return nameOf(l[0]), l[1:]
}

// one is what must stand there alone.
func one(l []api.Datum) api.Datum {
	must(len(l) == 1, api.ErrForm)
	return l[0]
}

func isWord(d api.Datum, word string) bool {
	return d.Kind == api.DSym && d.Name == word
}

// nameOf holds no text of whoever handed d in.
func nameOf(d api.Datum) string {
	must(d.Kind == api.DSym, api.ErrForm)
	return strings.Clone(d.Name)
}

func namesOf(l []api.Datum) []string {
	var out []string
	for _, d := range l {
		out = append(out, nameOf(d))
	}
	return out
}

// justNames is what a list has that must be so many names.
func justNames(d api.Datum, n int) []string {
	must(d.Kind == api.DList && len(d.Kids) == n, api.ErrForm)
	return namesOf(d.Kids)
}

// called is what a library is called. How long that is, only names tell: what is none comes ahead.
func called(d api.Datum) string {
	s := strings.Join(namesOf(things(d)), " ")
	must(len(s) <= api.MaxLibName, api.ErrMuch)
	return s
}

// copied are data with which nothing is wrong, in memory of their own, and without what their kinds have not.
func copied(l []api.Datum) []api.Datum {
	var out []api.Datum
	for _, d := range l {
		out = append(out, copiedOne(d))
	}
	return out
}

func copiedOne(d api.Datum) api.Datum {
	out := api.Datum{Kind: d.Kind}
	switch d.Kind {
	case api.DNum, api.DBool:
		out.N = d.N
	case api.DSym:
		out.Name = strings.Clone(d.Name)
	case api.DList:
		out.Kids = copied(d.Kids)
	}
	return out
}
