package value_test

import (
	"testing"

	"graftwood/api"
	"graftwood/value"
)

// end is how work ends, and what is thrown beside that.
func end(work func()) (how int, other any) {
	defer func() { other = recover() }()
	func() {
		defer func() {
			if p := recover(); p != nil {
				how = value.Ended(p)
			}
		}()
		work()
	}()
	return how, nil
}

func TestMust(t *testing.T) {
	for how := api.RunDone; how <= api.RunMuch; how++ {
		if got, other := end(func() { value.Must(false, how) }); got != how || other != nil {
			t.Errorf("it ends with %v and %v, not with %v", got, other, how)
		}
		if got, other := end(func() { value.Must(true, how) }); got != 0 || other != nil {
			t.Errorf("it ends with %v and %v", got, other)
		}
	}
}

// What is no end of a run is thrown on.
func TestEndedOther(t *testing.T) {
	if how, other := end(func() { panic("a mistake") }); how != 0 || other != "a mistake" {
		t.Errorf("it ends with %v and %v", how, other)
	}
}
