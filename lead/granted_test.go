package lead

import (
	"math"
	"math/rand"
	"slices"
	"testing"

	"tattle/api"
)

// P18.2: Start, Granted

// badVoters are voters of no lead at all.
var badVoters = []int{-1, 64, -2, -64, 65, 128, 256, 257, 1 << 31, -1 << 31, 1 << 32, 1<<32 + 1, -1 << 32, -1<<32 + 1, math.MinInt, math.MinInt + 1, math.MaxInt - 1, math.MaxInt}

// wantAlone fails if what is answered and what was handed in share memory.
func wantAlone(t *testing.T, got, given api.Lead) {
	t.Helper()
	if len(got.Asked) == 0 || len(given.Asked) == 0 {
		return
	}
	was := slices.Clone(given.Asked)
	got.Asked[0]++
	got.Asked[len(got.Asked)-1]++
	if !slices.Equal(given.Asked, was) {
		t.Errorf("a change to what is answered changed %v to %v", was, given.Asked)
	}
}

// wantStart fails if Start answers otherwise.
func wantStart(t *testing.T, l api.Lead, epoch uint64, want api.Lead, e api.Errno) {
	t.Helper()
	unchanged(t, l, func(l api.Lead) {
		x, xe := Start(l, epoch)
		if !equal(x, want) || xe != e {
			t.Errorf("Start(%v, %d): %v, %d; want %v, %d", l, epoch, x, xe, want, e)
		}
		wantAlone(t, x, l)
	})
}

// wantGranted fails if Granted answers otherwise.
func wantGranted(t *testing.T, l api.Lead, voter int, epoch uint64, asked int64, want api.Lead, e api.Errno) {
	t.Helper()
	unchanged(t, l, func(l api.Lead) {
		x, xe := Granted(l, voter, epoch, asked)
		if !equal(x, want) || xe != e {
			t.Errorf("Granted(%v, %d, %d, %d): %v, %d; want %v, %d", l, voter, epoch, asked, x, xe, want, e)
		}
		wantAlone(t, x, l)
	})
}

func TestStart(t *testing.T) {
	for _, l := range goodLeads() {
		for _, epoch := range append([]uint64{l.Epoch - 1, l.Epoch, l.Epoch + 1, l.Epoch + 2, l.Epoch ^ 1<<63}, epochs...) {
			if epoch > l.Epoch {
				wantStart(t, l, epoch, allOf(epoch, len(l.Asked), -1), api.OK)
			} else {
				wantStart(t, l, epoch, l, api.ErrStale)
			}
		}
	}
}

func TestStartBehindTheGreatestEpoch(t *testing.T) {
	l := api.Lead{Epoch: top, Asked: []int64{5, -1, 9}}
	for _, epoch := range epochs {
		wantStart(t, l, epoch, l, api.ErrStale)
	}
}

func TestStartOfWhatMayNotBe(t *testing.T) {
	for _, l := range badLeads() {
		// Above its epoch, the same, and below: what may not be comes first.
		for _, epoch := range []uint64{0, 2, 3, 4, top} {
			wantStart(t, l, epoch, l, api.ErrArg)
		}
	}
}

func TestStartAgainAndAgain(t *testing.T) {
	for n := 1; n <= 64; n++ {
		l, _ := New(n)
		for epoch := uint64(1); epoch < 5; epoch++ {
			wantStart(t, l, epoch, allOf(epoch, n, -1), api.OK)
			l, _ = Start(l, epoch)
			for voter := range n {
				l, _ = Granted(l, voter, epoch, 5)
			}
			wantStart(t, l, epoch, allOf(epoch, n, 5), api.ErrStale)
		}
	}
}

func TestGranted(t *testing.T) {
	for _, n := range []int{1, 2, 3, 5, 64} {
		for _, was := range append([]int64{-1}, goodAsked...) {
			for voter := range n {
				l := with(all(n, 7), voter, was)
				for _, asked := range append([]int64{max(0, was-1), max(0, was), min(was+1, farthest)}, goodAsked...) {
					wantGranted(t, l, voter, 3, asked, with(l, voter, max(was, asked)), api.OK)
				}
			}
		}
	}
}

func TestGrantedOfEachEpoch(t *testing.T) {
	for _, of := range epochs {
		l := api.Lead{Epoch: of, Asked: []int64{5, -1, 9}}
		for _, epoch := range append([]uint64{of - 1, of + 1, of ^ 1<<63, of ^ 1<<32, of ^ 1<<31}, epochs...) {
			for voter := range 3 {
				for _, asked := range []int64{0, 5, 9, 10, farthest} {
					if epoch == of {
						wantGranted(t, l, voter, epoch, asked, with(l, voter, max(l.Asked[voter], asked)), api.OK)
					} else {
						wantGranted(t, l, voter, epoch, asked, l, api.ErrStale)
					}
				}
			}
		}
	}
}

func TestGrantedOfEachVoter(t *testing.T) {
	for n := 1; n <= 64; n++ {
		l := all(n, -1)
		for voter := -2; voter < 70; voter++ {
			if voter >= 0 && voter < n {
				wantGranted(t, l, voter, 3, 0, with(l, voter, 0), api.OK)
			} else {
				wantGranted(t, l, voter, 3, 0, l, api.ErrArg)
			}
		}
	}
}

// TestGrantedWithFaults puts each fault alone, and beside each other one: a wrong epoch alone is stale, all else comes ahead of it.
func TestGrantedWithFaults(t *testing.T) {
	leads := append([]api.Lead{led(5, 9, -1), all(64, 5), led(-1)}, badLeads()...)
	for at, l := range leads {
		voters := append([]int{0, len(l.Asked) - 1, len(l.Asked), len(l.Asked) + 1}, badVoters...)
		for _, voter := range voters {
			for _, epoch := range []uint64{0, l.Epoch - 1, l.Epoch, l.Epoch + 1, top} {
				for _, asked := range []int64{-1, -2, 0, 20, farthest, farthest + 1, math.MinInt64, math.MaxInt64} {
					isNode := voter >= 0 && voter < len(l.Asked)
					switch {
					case at >= 3 || !isNode || asked < 0 || asked > farthest:
						wantGranted(t, l, voter, epoch, asked, l, api.ErrArg)
					case epoch != l.Epoch:
						wantGranted(t, l, voter, epoch, asked, l, api.ErrStale)
					default:
						wantGranted(t, l, voter, epoch, asked, with(l, voter, max(l.Asked[voter], asked)), api.OK)
					}
				}
			}
		}
	}
}

func TestGrantedOfEachAskedThatMayNotBe(t *testing.T) {
	for _, asked := range append([]int64{-1}, badAsked...) {
		for _, l := range []api.Lead{led(-1), led(5, 9, -1), all(64, farthest)} {
			for _, epoch := range []uint64{2, 3, 4} {
				wantGranted(t, l, 0, epoch, asked, l, api.ErrArg)
				wantGranted(t, l, len(l.Asked)-1, epoch, asked, l, api.ErrArg)
			}
		}
	}
}

// TestGrantedInWhateverOrder: of each voter the greatest stands, however late, and how often a grant comes.
func TestGrantedInWhateverOrder(t *testing.T) {
	r := rand.New(rand.NewSource(seed))
	for range 500 {
		n := 1 + r.Intn(64)
		l, _ := New(n)
		want := allOf(9, n, -1)
		l, _ = Start(l, 9)
		for range 3 * n {
			voter, asked := r.Intn(n), goodAsked[r.Intn(len(goodAsked))]
			want.Asked[voter] = max(want.Asked[voter], asked)
			l, _ = Granted(l, voter, 9, asked)
			if !equal(l, want) || Check(l) != api.OK {
				t.Fatalf("behind a grant of %d: %v; want %v", voter, l, want)
			}
		}
	}
}
