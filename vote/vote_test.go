package vote

import (
	"math"
	"math/rand"
	"testing"

	"tattle/api"
)

// The tests' draws are from this seed, so that a failure comes again.
const seed = 1

const (
	// top is the greatest epoch there is.
	top = math.MaxUint64
	// farthest is the last tick of a clock.
	farthest = 1 << 40
)

// ten may be: it lasts ten ticks, and its guard is 7.
var ten = api.Terms{Term: 10, D: 2, R: 4}

// The edges of numbers that may be 0 to some limit: what is far outside of it, also where less of the number would do.
var (
	badTo    = []int{-2, 64, 65, -3, -63, -64, -65, 127, 128, 255, 256, 319, 1 << 31, -1 << 31, 1 << 32, 1<<32 + 5, 1<<32 - 1, -1 << 32, -1<<32 + 5, math.MinInt, math.MinInt + 1, math.MaxInt - 1, math.MaxInt}
	badNodes = append([]int{-1}, badTo...)
	badNow   = []int64{-1, farthest + 1, -2, -10, farthest + 2, 2 * farthest, -farthest, -farthest - 1, 1 << 42, 1<<48 + 5, math.MinInt64, math.MinInt64 + 1, math.MaxInt64 - 1, math.MaxInt64}
	badWhen  = []int64{-1, 2*farthest + 1, -2, -10, 2*farthest + 2, 4 * farthest, -2 * farthest, -2*farthest - 1, 1 << 43, 1<<48 + 5, math.MinInt64, math.MinInt64 + 1, math.MaxInt64 - 1, math.MaxInt64}
	goodNow  = []int64{0, 1, 2, 9, 10, 11, 1 << 31, 1 << 32, farthest - 1000000, farthest - 10, farthest - 1, farthest}
	goodWhen = []int64{0, 1, 2, 9, 10, 11, 1 << 32, farthest - 1, farthest, farthest + 1, farthest + 1000000, 2*farthest - 1, 2 * farthest}
	epochs   = []uint64{0, 1, 2, 5, 127, 128, 1<<32 - 1, 1 << 32, 1<<63 - 1, 1 << 63, top - 1, top}
)

// held is a term, and its guard.
type held struct {
	t     api.Terms
	guard int64
}

// goodTerms are terms that may be, and how long they may be held.
func goodTerms() []held {
	return []held{
		{ten, 7},
		{api.Terms{Term: 1, D: 0, R: 1}, 1},
		{api.Terms{Term: 1, D: 0, R: farthest}, 1},
		{api.Terms{Term: 2, D: 0, R: 1}, 1},
		{api.Terms{Term: 2, D: 0, R: 2}, 2},
		{api.Terms{Term: 3, D: 0, R: 1}, 2},
		{api.Terms{Term: 2, D: 1, R: 1}, 1},
		{api.Terms{Term: 2, D: 1, R: farthest}, 1},
		{api.Terms{Term: 10, D: 9, R: 1}, 1},
		{api.Terms{Term: 10, D: 9, R: 4}, 1},
		{api.Terms{Term: 10, D: 8, R: 1}, 1},
		{api.Terms{Term: 10, D: 8, R: 2}, 2},
		{api.Terms{Term: 10, D: 0, R: 1}, 5},
		{api.Terms{Term: 10, D: 0, R: 10}, 10},
		{api.Terms{Term: 10, D: 0, R: 9}, 9},
		{api.Terms{Term: 1000000, D: 0, R: 1}, 500000},
		{api.Terms{Term: 1000000, D: 0, R: 999999}, 999999},
		{api.Terms{Term: 1000000, D: 0, R: 1000000}, 1000000},
		{api.Terms{Term: 1000000, D: 0, R: farthest}, 1000000},
		{api.Terms{Term: 1000000, D: 1, R: farthest}, 999999},
		{api.Terms{Term: 1000000, D: 999998, R: 1}, 1},
		{api.Terms{Term: 1000000, D: 999999, R: 1}, 1},
		{api.Terms{Term: 999999, D: 10, R: farthest - 1}, 999989},
	}
}

// badTerms are terms that may not be: of the term alone, of its D, of its R, of one for which there is no guard, and of several of these.
func badTerms() []api.Terms {
	l := []api.Terms{
		{},
		{Term: 10},
		{Term: 10, D: 10, R: 4}, {Term: 10, D: 11, R: 4}, {Term: 10, D: 10, R: 1}, {Term: 10, D: 10, R: farthest}, {Term: 10, D: farthest, R: 1},
		{Term: 2, D: 2, R: 4}, {Term: 1, D: 1, R: 1}, {Term: 1, D: 1, R: farthest},
		{Term: 1000000, D: 1000000, R: 1}, {Term: 1000000, D: 1000000, R: farthest}, {Term: 1000000, D: 1000001, R: 9}, {Term: 1000000, D: farthest, R: farthest},
		{Term: 1, D: -1, R: 0}, {Term: 0, D: -1, R: 1}, {Term: 0, D: 0, R: 0}, {Term: -1, D: -1, R: -1},
	}
	for _, term := range []int64{0, -1, -10, 1000001, 1000002, 1000010, 1<<32 + 10, -1<<32 + 10, farthest, farthest + 1, farthest + 10, math.MinInt64, math.MinInt64 + 10, math.MaxInt64 - 1, math.MaxInt64} {
		l = append(l, api.Terms{Term: term, D: 2, R: 4}, api.Terms{Term: term, D: 0, R: 1}, api.Terms{Term: term, D: 0, R: farthest})
	}
	for _, d := range []int64{-1, -2, -10, -farthest, farthest + 1, farthest + 2, 1<<48 + 2, math.MinInt64, math.MinInt64 + 1, math.MaxInt64 - 1, math.MaxInt64} {
		l = append(l, api.Terms{Term: 10, D: d, R: 4}, api.Terms{Term: 1, D: d, R: 1}, api.Terms{Term: 1000000, D: d, R: farthest})
	}
	for _, r := range []int64{0, -1, -4, -farthest, farthest + 1, farthest + 4, 1<<48 + 4, math.MinInt64, math.MinInt64 + 1, math.MaxInt64 - 1, math.MaxInt64} {
		l = append(l, api.Terms{Term: 10, D: 2, R: r}, api.Terms{Term: 1, D: 0, R: r}, api.Terms{Term: 1000000, D: 0, R: r})
	}
	return l
}

// badVotes are votes that may not be: of one part alone, and of each two, and all.
func badVotes() []api.Vote {
	l := []api.Vote{{To: -2, Until: -1}, {To: 64, Wait: 2*farthest + 1}, {To: -1, Until: -1, Wait: -1}, {Epoch: top, To: 64, Until: 2*farthest + 1, Wait: -1}}
	for _, to := range badTo {
		l = append(l, api.Vote{To: to}, api.Vote{Epoch: 3, To: to, Until: 15, Wait: 9})
	}
	for _, when := range badWhen {
		l = append(l, api.Vote{Until: when}, api.Vote{To: -1, Until: when}, api.Vote{Epoch: 3, To: 63, Until: when, Wait: 9})
		l = append(l, api.Vote{Wait: when}, api.Vote{To: -1, Wait: when}, api.Vote{Epoch: 3, To: 63, Until: 15, Wait: when})
	}
	return l
}

// goodVotes are votes that may be, of each kind.
func goodVotes() []api.Vote {
	l := []api.Vote{{}, {To: -1}}
	for to := -1; to < 64; to++ {
		l = append(l, api.Vote{Epoch: 3, To: to, Until: 15, Wait: 9})
	}
	for _, when := range goodWhen {
		l = append(l, api.Vote{Epoch: 3, To: -1, Until: when}, api.Vote{Epoch: 3, To: 63, Wait: when}, api.Vote{To: 5, Until: when, Wait: when})
	}
	for _, epoch := range epochs {
		l = append(l, api.Vote{Epoch: epoch, To: -1}, api.Vote{Epoch: epoch, To: 2, Until: 2 * farthest, Wait: 2 * farthest})
	}
	return l
}

// slowGuard goes up from 0, as chapter 4 tells a guard, and calls no layer below.
func slowGuard(t api.Terms) int64 {
	var g int64
	for g+t.D+g/t.R < t.Term {
		g++
	}
	return g
}

// wantHold fails if Hold and May answer otherwise.
func wantHold(t *testing.T, x api.Terms, guard int64, e api.Errno) {
	t.Helper()
	if g, ge := Hold(x); g != guard || ge != e {
		t.Errorf("Hold(%v): %d, %d", x, g, ge)
	}
	if me := May(x); me != e {
		t.Errorf("May(%v): %d", x, me)
	}
}

// P17.1: May, Hold, Check, New

func TestTermsThatMayBe(t *testing.T) {
	for _, x := range goodTerms() {
		wantHold(t, x.t, x.guard, api.OK)
		if g := slowGuard(x.t); g != x.guard {
			t.Errorf("the guard of %v: %d", x.t, g)
		}
	}
}

func TestTermsThatMayNotBe(t *testing.T) {
	for _, x := range badTerms() {
		wantHold(t, x, 0, api.ErrArg)
	}
}

func TestTermsAboutTheEdge(t *testing.T) {
	for term := int64(-2); term < 40; term++ {
		for d := int64(-2); d < 42; d++ {
			for r := int64(-2); r < 42; r++ {
				x := api.Terms{Term: term, D: d, R: r}
				if term < 1 || d < 0 || r < 1 || d >= term {
					wantHold(t, x, 0, api.ErrArg)
				} else {
					wantHold(t, x, slowGuard(x), api.OK)
				}
			}
		}
	}
	for term := int64(999990); term <= 1000000; term++ {
		for d := term - 5; d < term; d++ {
			x := api.Terms{Term: term, D: d, R: 2}
			wantHold(t, x, slowGuard(x), api.OK)
		}
		wantHold(t, api.Terms{Term: term, D: term, R: 2}, 0, api.ErrArg)
	}
}

func TestTermsThatAreDrawn(t *testing.T) {
	r := rand.New(rand.NewSource(seed))
	for range 300 {
		term := 1 + r.Int63n(1000000)>>r.Intn(20)
		x := api.Terms{Term: term, D: r.Int63n(term), R: 1 + r.Int63n(farthest)>>r.Intn(41)}
		wantHold(t, x, slowGuard(x), api.OK)
		x.D = term + r.Int63n(1000)
		wantHold(t, x, 0, api.ErrArg)
	}
}

func TestCheck(t *testing.T) {
	for _, v := range goodVotes() {
		if e := Check(v); e != api.OK {
			t.Errorf("Check(%v): %d", v, e)
		}
	}
	for _, v := range badVotes() {
		if e := Check(v); e != api.ErrArg {
			t.Errorf("Check(%v): %d", v, e)
		}
	}
}

func TestCheckOfEachBesideTheOthers(t *testing.T) {
	for _, to := range []int{-2, -1, 0, 63, 64} {
		for _, until := range []int64{-1, 0, 2 * farthest, 2*farthest + 1} {
			for _, wait := range []int64{-1, 0, 2 * farthest, 2*farthest + 1} {
				want := api.OK
				if to == -2 || to == 64 || until == -1 || until > 2*farthest || wait == -1 || wait > 2*farthest {
					want = api.ErrArg
				}
				for _, epoch := range epochs {
					if e := Check(api.Vote{Epoch: epoch, To: to, Until: until, Wait: wait}); e != want {
						t.Errorf("Check of epoch %d, to %d, until %d, wait %d: %d", epoch, to, until, wait, e)
					}
				}
			}
		}
	}
}

func TestNew(t *testing.T) {
	if v := New(); v != (api.Vote{Epoch: 0, To: -1, Until: 0, Wait: 0}) || Check(v) != api.OK {
		t.Errorf("New: %v", v)
	}
}
