package build

import (
	"strings"

	"graftwood/api"
)

// thrown is an error on its way from where it was met to the edge of the package, with the name of the source that it is of: empty, if of none.
type thrown struct {
	err    api.Errno
	source string
}

// must throws err, if something is not as it must be.
func must(is bool, err api.Errno, source string) {
	if !is {
		panic(thrown{err, source})
	}
}

// pass throws err, if it is one.
func pass(err api.Errno, source string) {
	must(err == api.OK, err, source)
}

// attempt does work, and tells what was thrown out of it: then what work sets last is not set.
func attempt(work func()) (err api.Errno, source string) {
	defer func() {
		if p := recover(); p != nil {
			err, source = caught(p)
		}
	}()
	work()
	return api.OK, ""
}

// caught is the error that was thrown. Any other panic is a mistake in this package, and to take it for an answer would hide it.
func caught(p any) (api.Errno, string) {
	t, ok := p.(thrown)
	if !ok {
		panic(p)
	}
	return t.err, strings.Clone(t.source)
}
