package value

// ended is how a run ended, on its way from where that was met to the edge of what runs.
type ended struct {
	how int
}

// Must ends the run so, if something is not as it must be.
func Must(is bool, how int) {
	if !is {
		panic(ended{how})
	}
}

// Ended is how a run ended of which p was recovered. Any other panic is a mistake in the program, and to take it for an answer would hide it.
func Ended(p any) (how int) {
	e, ok := p.(ended)
	if !ok {
		panic(p)
	}
	return e.how
}
