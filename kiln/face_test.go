package kiln

import (
	"testing"

	"kiln/api"
	"kiln/giveup"
)

func TestRefusalOfWhatWasGivenUp(t *testing.T) {
	given := giveup.Refusal{E: api.ErrCode, In: 2, At: 3}
	if why := refusal(func() { given.Unless(false) }); why != given {
		t.Errorf("given up with %v: %v", given, why)
	}
	if why := refusal(func() { given.Unless(true) }); why != (giveup.Refusal{}) {
		t.Errorf("not given up: %v", why)
	}
}

// Every panic but a refusal goes on.
func TestRefusalLetsOtherPanicsGoOn(t *testing.T) {
	for _, value := range []any{"another", api.ErrUnit, 1, &giveup.Refusal{}} {
		func() {
			defer func() {
				if r := recover(); r != value {
					t.Errorf("a panic of %v became %v", value, r)
				}
			}()
			refusal(func() { panic(value) })
			t.Errorf("a panic of %v became an answer", value)
		}()
	}
}
