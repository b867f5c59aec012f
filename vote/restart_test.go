package vote

import (
	"testing"

	"tattle/api"
)

// P17.2: Restart

// wantRestart fails if Restart answers otherwise.
func wantRestart(t *testing.T, x api.Terms, epoch uint64, to int, now int64, want api.Vote, e api.Errno) {
	t.Helper()
	if v, ve := Restart(x, epoch, to, now); v != want || ve != e {
		t.Errorf("Restart(%v, %d, %d, %d): %v, %d", x, epoch, to, now, v, ve)
	}
}

func TestRestart(t *testing.T) {
	for _, x := range goodTerms() {
		for _, epoch := range epochs {
			for _, to := range []int{-1, 0, 1, 2, 31, 32, 62, 63} {
				for _, now := range goodNow {
					want := api.Vote{Epoch: epoch, To: to, Until: 0, Wait: now + x.t.Term}
					wantRestart(t, x.t, epoch, to, now, want, api.OK)
					if e := Check(want); e != api.OK {
						t.Errorf("Check(%v): %d", want, e)
					}
				}
			}
		}
	}
	for to := -1; to < 64; to++ {
		wantRestart(t, ten, 6, to, 4, api.Vote{Epoch: 6, To: to, Wait: 14}, api.OK)
	}
}

func TestRestartOfWhatMayNotBe(t *testing.T) {
	for _, epoch := range epochs {
		for _, x := range badTerms() {
			wantRestart(t, x, epoch, 3, 5, api.Vote{}, api.ErrArg)
			wantRestart(t, x, epoch, -1, 0, api.Vote{}, api.ErrArg)
			wantRestart(t, x, epoch, 64, 5, api.Vote{}, api.ErrArg)
			wantRestart(t, x, epoch, 3, -1, api.Vote{}, api.ErrArg)
			wantRestart(t, x, epoch, -2, farthest+1, api.Vote{}, api.ErrArg)
		}
		for _, to := range badTo {
			wantRestart(t, ten, epoch, to, 5, api.Vote{}, api.ErrArg)
			wantRestart(t, ten, epoch, to, 0, api.Vote{}, api.ErrArg)
			wantRestart(t, ten, epoch, to, farthest, api.Vote{}, api.ErrArg)
			wantRestart(t, ten, epoch, to, farthest+1, api.Vote{}, api.ErrArg)
			wantRestart(t, ten, epoch, to, -1, api.Vote{}, api.ErrArg)
		}
		for _, now := range badNow {
			wantRestart(t, ten, epoch, 3, now, api.Vote{}, api.ErrArg)
			wantRestart(t, ten, epoch, -1, now, api.Vote{}, api.ErrArg)
			wantRestart(t, ten, epoch, 63, now, api.Vote{}, api.ErrArg)
		}
	}
}
