package names

import (
	"graftwood/api"
	"graftwood/text"
)

// wrongSet ends even if s is among its own kids: it goes no deeper than MaxSet.
func wrongSet(s api.Set, deep int) api.Errno {
	if deep > api.MaxSet {
		return api.ErrMuch
	}
	switch s.Kind {
	case api.SetLib:
		return api.OK
	case api.SetOnly, api.SetExcept, api.SetPrefix, api.SetRename:
	default:
		return api.ErrKind
	}
	if err := wrongAlone(s); err != api.OK {
		return err
	}
	return wrongSet(s.Kids[0], deep+1)
}

// wrongAlone is what is wrong with a set of another, whatever that is.
func wrongAlone(s api.Set) api.Errno {
	rename := s.Kind == api.SetRename
	if len(s.Kids) != 1 || rename && len(s.As) != len(s.Names) {
		return api.ErrMany
	}
	if s.Kind == api.SetPrefix && !text.Named(s.Prefix) {
		return api.ErrName
	}
	if rename && !allNamed(s.As) {
		return api.ErrName
	}
	return api.OK
}

func allNamed(l []string) bool {
	for _, s := range l {
		if !text.Named(s) {
			return false
		}
	}
	return true
}

func wrongExports(exports []string) api.Errno {
	if len(exports) > api.MaxNames {
		return api.ErrMany
	}
	first := places(exports)
	for i, s := range exports {
		if !text.Named(s) {
			return api.ErrName
		}
		if first[s] != i {
			return api.ErrFit
		}
	}
	return api.OK
}

// places tells where each of l stands first.
func places(l []string) map[string]int {
	out := map[string]int{}
	for i, s := range l {
		if _, ok := out[s]; !ok {
			out[s] = i
		}
	}
	return out
}
