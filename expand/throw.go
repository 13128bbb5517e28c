package expand

import "graftwood/api"

// thrown is an error on its way from where it was met to the edge of the package.
type thrown struct {
	err api.Errno
}

// must throws err, if something is not as it must be.
func must(is bool, err api.Errno) {
	if !is {
		panic(thrown{err})
	}
}

// attempt does work, and tells what was thrown out of it: then what work sets last is not set.
func attempt(work func()) (err api.Errno) {
	defer func() {
		if p := recover(); p != nil {
			err = caught(p)
		}
	}()
	work()
	return api.OK
}

// caught is the error that was thrown. Any other panic is a mistake in this package, and to take it for an answer would hide it.
func caught(p any) api.Errno {
	t, ok := p.(thrown)
	if !ok {
		panic(p)
	}
	return t.err
}
