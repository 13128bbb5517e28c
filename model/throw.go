package model

import "graftwood/api"

// ended is how a run ended, on its way from where that was met to the edge of the package.
type ended struct {
	how int
}

// must ends the run so, if something is not as it must be.
func must(is bool, how int) {
	if !is {
		panic(ended{how})
	}
}

// attempt does work, and tells how it ended.
func attempt(work func()) (how int) {
	defer func() {
		if p := recover(); p != nil {
			how = caught(p)
		}
	}()
	work()
	return api.RunDone
}

// caught is the end that was thrown. Any other panic is a mistake in this package, and to take it for an answer would hide it.
func caught(p any) int {
	e, ok := p.(ended)
	if !ok {
		panic(p)
	}
	return e.how
}
