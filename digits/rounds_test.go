package digits

import (
	"testing"

	"tallystick/api"
)

// TestRounds: P18.3, rounds are repeated from 0 on as long as they are too near to a boundary, MaxRounds of them at most; the first other result is returned, with its round, be it an error.
func TestRounds(t *testing.T) {
	for near := range api.MaxRounds + 3 {
		for _, e := range []api.Errno{api.OK, api.ErrArg, api.ErrZero, api.ErrLong, api.ErrWanted} {
			text := ""
			if e == api.OK {
				text = "3.1"
			}
			tried := 0
			s, round, got := certain(func(round int) (string, api.Errno) {
				if round != tried {
					t.Errorf("round %d follows %d others", round, tried)
				}
				tried++
				if round < near {
					return "", api.ErrNear
				}
				return text, e
			})
			if near >= api.MaxRounds {
				if s != "" || round != 0 || got != api.ErrNear || tried != api.MaxRounds {
					t.Errorf("%d rounds too near: %q, %d, %d after %d", near, s, round, got, tried)
				}
			} else if s != text || round != near || got != e || tried != near+1 {
				t.Errorf("%d rounds too near: %q, %d, %d after %d", near, s, round, got, tried)
			}
		}
	}
}

// TestAttempts: P18.3, what a round tries is made by as many terms, and as many guard digits, as it has: in each round the digits are those of the first.
func TestAttempts(t *testing.T) {
	for _, c := range []int{api.CE, api.CPi} {
		for _, d := range []int{1, 2, 20, 300, mostWanted} {
			want, e := attempt(c, d)(0)
			if e != api.OK || len(want) != d+2 {
				t.Fatalf("%d digits of %d: %q, %d", d, c, want, e)
			}
			for round := 1; round <= api.MaxRounds; round++ {
				if got, e := attempt(c, d)(round); got != want || e != api.OK {
					t.Errorf("%d digits of %d in the round %d: %q, %d, not %q", d, c, round, got, e, want)
				}
			}
		}
	}
}
