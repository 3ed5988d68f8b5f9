package kiln

import (
	"testing"

	"kiln/api"
	"kiln/giveup"
)

func TestAnswerOfWhatWasGivenUp(t *testing.T) {
	made, e, at := answer(func() string {
		giveup.Refusal{E: api.ErrSig, At: 3}.Unless(false)
		return "made"
	})
	if made != "" || e != api.ErrSig || at != 3 {
		t.Errorf("given up: %q, %d, %d", made, e, at)
	}
	made, e, at = answer(func() string { return "made" })
	if made != "made" || e != api.OK || at != 0 {
		t.Errorf("made: %q, %d, %d", made, e, at)
	}
}

// Every panic but a refusal goes on.
func TestAnswerLetsOtherPanicsGoOn(t *testing.T) {
	for _, value := range []any{"another", api.ErrUnit, 1, &giveup.Refusal{}} {
		func() {
			defer func() {
				if r := recover(); r != value {
					t.Errorf("a panic of %v became %v", value, r)
				}
			}()
			answer(func() string { panic(value) })
			t.Errorf("a panic of %v became an answer", value)
		}()
	}
}
