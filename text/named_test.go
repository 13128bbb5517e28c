package text_test

import (
	"strings"
	"testing"

	"graftwood/api"
	"graftwood/text"
)

const letters = "abcdefghijklmnopqrstuvwxyz0123456789!?*+-/<=>_."

// A1: each byte by itself: a name, if it is a letter and no digit.
func TestA1Letters(t *testing.T) {
	for c := range 256 {
		s := string([]byte{byte(c)})
		want := strings.Contains(letters, s) && (c < '0' || c > '9')
		if got := text.Named(s); got != want {
			t.Errorf("Named(%q) is %v", s, got)
		}
		if got := text.Named("x" + s); got != strings.Contains(letters, s) {
			t.Errorf("Named(%q) is %v", "x"+s, got)
		}
		if got := text.Named(s + "x"); got != strings.Contains(letters, s) {
			t.Errorf("Named(%q) is %v", s+"x", got)
		}
	}
}

func TestA1Named(t *testing.T) {
	long := strings.Repeat("a", api.MaxName)
	for s, want := range map[string]bool{
		"":                                 false,
		"a":                                true,
		"list->pair":                       true,
		"set!":                             true,
		"...":                              true,
		"0":                                false,
		"007":                              false,
		"-1":                               false,
		"-0":                               false,
		"-":                                true,
		"--":                               true,
		"--1":                              true,
		"+1":                               true,
		"1-":                               true,
		"1-1":                              true,
		"-1-":                              true,
		"1.5":                              true,
		"1a":                               true,
		"-a":                               true,
		"a b":                              false,
		" a":                               false,
		"a\n":                              false,
		"a\x00":                            false,
		"#t":                               false,
		"'a":                               false,
		"A":                                false,
		"\u00e9":                           false,
		"\xff":                             false,
		long:                               true,
		long + "a":                         false,
		strings.Repeat("1", api.MaxName):   false,
		strings.Repeat("1", api.MaxName+1): false,
		strings.Repeat("-", api.MaxName):   true,
		strings.Repeat("a", 1<<20):         false,
	} {
		if got := text.Named(s); got != want {
			t.Errorf("Named(%.40q) is %v", s, got)
		}
	}
}
