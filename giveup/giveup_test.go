package giveup

import (
	"errors"
	"testing"

	"kiln/api"
)

// caught is what a panic of f carries, or nil.
func caught(f func()) (r any) {
	defer func() { r = recover() }()
	f()
	return nil
}

func TestUnlessGivesUpWithItself(t *testing.T) {
	r := Refusal{E: api.ErrForm, At: 19}
	if got := caught(func() { r.Unless(true) }); got != nil {
		t.Errorf("what holds gave up: %v", got)
	}
	if got := caught(func() { r.Unless(false) }); got != r {
		t.Errorf("gave up with %v, want %v", got, r)
	}
}

func TestOfTellsRefusals(t *testing.T) {
	r := Refusal{E: api.ErrLong, At: 3}
	if got := Of(r); got != r {
		t.Errorf("%v, want %v", got, r)
	}
}

func TestOtherPanicsGoOn(t *testing.T) {
	var list []int
	fault := caught(func() { list[len(list)]++ })
	for _, other := range []any{fault, errors.New("other"), "text", 2, api.ErrForm, &Refusal{}} {
		if got := caught(func() { Of(other) }); got != other {
			t.Errorf("the panic %v went on as %v", other, got)
		}
	}
}
