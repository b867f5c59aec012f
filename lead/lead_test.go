package lead

import (
	"math"
	"slices"
	"strconv"
	"testing"

	"tattle/api"
)

// The tests' draws are from this seed, so that a failure comes again.
const seed = 1

const (
	// top is the greatest epoch there is.
	top = math.MaxUint64
	// farthest is the last tick of a clock.
	farthest = 1 << 40
)

// ten are terms that may be: a lead holds by them for 7.
var ten = api.Terms{Term: 10, D: 2, R: 4}

var (
	// epochs are of each size.
	epochs = []uint64{0, 1, 2, 3, 127, 128, 1<<32 - 1, 1 << 32, 1<<63 - 1, 1 << 63, top - 1, top}
	// goodAsked may stand in a lead, and be asked.
	goodAsked = []int64{0, 1, 2, 9, 10, 1 << 31, 1 << 32, farthest - 1, farthest}
	// badAsked may neither stand in a lead, nor be asked; also where less of the number would do.
	badAsked = []int64{-2, farthest + 1, -3, -10, -farthest, -farthest - 1, farthest + 2, 2 * farthest, 1<<48 + 5, -1<<32 - 1, -1 << 32, math.MinInt64, math.MinInt64 + 1, math.MaxInt64 - 1, math.MaxInt64}
	// badCounts are of how many nodes there may be no lead.
	badCounts = []int{0, -1, 65, -2, -64, 66, 128, 256, 257, 1 << 31, -1 << 31, 1 << 32, 1<<32 + 1, 1<<32 + 64, -1<<32 + 1, math.MinInt, math.MinInt + 1, math.MaxInt - 1, math.MaxInt}
)

// led is a lead of epoch 3.
func led(asked ...int64) api.Lead { return api.Lead{Epoch: 3, Asked: asked} }

// allOf is a lead of an epoch that each of n nodes has granted, asked at the same tick.
func allOf(epoch uint64, n int, asked int64) api.Lead {
	return api.Lead{Epoch: epoch, Asked: slices.Repeat([]int64{asked}, n)}
}

// all is such a lead of epoch 3.
func all(n int, asked int64) api.Lead { return allOf(3, n, asked) }

// with is the lead with another number at one place.
func with(l api.Lead, at int, asked int64) api.Lead {
	l = api.Lead{Epoch: l.Epoch, Asked: slices.Clone(l.Asked)}
	l.Asked[at] = asked
	return l
}

// equal holds leads against each other as they stand, by no call of this package.
func equal(a, b api.Lead) bool {
	if a.Epoch != b.Epoch || len(a.Asked) != len(b.Asked) {
		return false
	}
	for i := range a.Asked {
		if a.Asked[i] != b.Asked[i] {
			return false
		}
	}
	return true
}

// unchanged is what is handed to a call, and stays as it was. What follows it in memory must stay, too.
func unchanged(t *testing.T, l api.Lead, call func(l api.Lead)) {
	t.Helper()
	given := append(slices.Clone(l.Asked), 77, 78)
	was := slices.Clone(given)
	call(api.Lead{Epoch: l.Epoch, Asked: given[:len(l.Asked)]})
	if !slices.Equal(given, was) {
		t.Errorf("changed %v to %v", was, given)
	}
}

// badLeads are leads that may not be: of too many or no numbers, and of each number that may not stand there, at each kind of place.
func badLeads() []api.Lead {
	l := []api.Lead{{}, {Asked: []int64{}}, {Epoch: top}, {Epoch: 3, Asked: []int64{}}, all(65, -1), all(65, 0), all(65, farthest), all(66, 5), all(128, 5), all(256, 5), all(257, 5), all(1<<16+1, 5), all(65, -2), led(-2, -2), led(-2, farthest+1, 5)}
	for _, asked := range badAsked {
		l = append(l, led(asked))
		for _, n := range []int{3, 64} {
			for _, at := range []int{0, n / 2, n - 1} {
				l = append(l, with(all(n, -1), at, asked), with(all(n, 5), at, asked))
			}
		}
	}
	return l
}

// goodLeads are leads that may be, of each kind.
func goodLeads() []api.Lead {
	l := []api.Lead{led(-1), led(0), led(5, 9, -1), led(5, -1, -1), led(5, 4, -1, -1, 9), led(farthest, 0), led(-1, farthest)}
	for _, n := range []int{1, 2, 3, 4, 5, 31, 32, 33, 63, 64} {
		for _, asked := range append([]int64{-1}, goodAsked...) {
			l = append(l, all(n, asked))
			for _, at := range []int{0, n / 2, n - 1} {
				l = append(l, with(all(n, -1), at, asked), with(all(n, 5), at, asked))
			}
		}
	}
	for _, epoch := range epochs {
		l = append(l, api.Lead{Epoch: epoch, Asked: []int64{5, 9, -1}})
	}
	return l
}

// P18.1: New, Check, Same, Majority

func TestNew(t *testing.T) {
	for n := 1; n <= 64; n++ {
		l, e := New(n)
		if !equal(l, allOf(0, n, -1)) || e != api.OK || Check(l) != api.OK {
			t.Errorf("New(%d): %v, %d", n, l, e)
		}
	}
	for _, n := range badCounts {
		if l, e := New(n); l.Epoch != 0 || len(l.Asked) != 0 || e != api.ErrArg {
			t.Errorf("New(%d): %v, %d", n, l, e)
		}
	}
}

func TestNewIsOfItsOwn(t *testing.T) {
	a, _ := New(3)
	b, _ := New(3)
	a.Asked[1] = 5
	if c, _ := New(3); !equal(b, c) || b.Asked[1] != -1 {
		t.Errorf("New: %v, and %v", b, c)
	}
}

func wantCheck(t *testing.T, l api.Lead, want api.Errno) {
	t.Helper()
	unchanged(t, l, func(l api.Lead) {
		if e := Check(l); e != want {
			t.Errorf("Check(%v): %d; want %d", l, e, want)
		}
	})
}

func TestCheck(t *testing.T) {
	for _, l := range goodLeads() {
		wantCheck(t, l, api.OK)
	}
	for _, l := range badLeads() {
		wantCheck(t, l, api.ErrArg)
	}
}

func TestCheckOfEachCount(t *testing.T) {
	for n := range 200 {
		want := api.OK
		if n == 0 || n > 64 {
			want = api.ErrArg
		}
		for _, asked := range []int64{-1, 0, 5, farthest} {
			wantCheck(t, all(n, asked), want)
		}
	}
}

func TestCheckOfEachNumberAtEachPlace(t *testing.T) {
	for _, n := range []int{1, 2, 3, 5, 63, 64} {
		for at := range n {
			for asked, want := range map[int64]api.Errno{-2: api.ErrArg, -1: api.OK, 0: api.OK, farthest: api.OK, farthest + 1: api.ErrArg} {
				wantCheck(t, with(all(n, -1), at, asked), want)
				wantCheck(t, with(all(n, farthest), at, asked), want)
			}
		}
	}
}

func TestMajority(t *testing.T) {
	for n, want := range map[int]int{-1: 0, 0: 0, 1: 1, 2: 2, 3: 2, 4: 3, 5: 3, 6: 4, 7: 4, 62: 32, 63: 32, 64: 33, 65: 33, 1000: 501, -2: 0, -3: 0, -64: 0, math.MinInt: 0, math.MinInt + 1: 0, math.MaxInt: 1 << 62, math.MaxInt - 1: 1 << 62} {
		if m := Majority(n); m != want {
			t.Errorf("Majority(%d): %d; want %d", n, m, want)
		}
	}
	for n := 1; n < 2000; n++ {
		// Two of them have a node in common, two that are one less need not.
		if m := Majority(n); 2*m <= n || 2*(m-1) > n {
			t.Errorf("Majority(%d): %d", n, m)
		}
	}
}

func wantSame(t *testing.T, a, b api.Lead, want bool) {
	t.Helper()
	unchanged(t, a, func(a api.Lead) {
		unchanged(t, b, func(b api.Lead) {
			if Same(a, b) != want || Same(b, a) != want {
				t.Errorf("Same(%v, %v): %v, and %v", a, b, Same(a, b), Same(b, a))
			}
		})
	})
}

func TestSame(t *testing.T) {
	for _, l := range append(goodLeads(), badLeads()...) {
		wantSame(t, l, api.Lead{Epoch: l.Epoch, Asked: slices.Clone(l.Asked)}, true)
		wantSame(t, l, api.Lead{Epoch: l.Epoch + 1, Asked: l.Asked}, false)
		wantSame(t, l, api.Lead{Epoch: l.Epoch ^ 1<<63, Asked: l.Asked}, false)
		wantSame(t, l, api.Lead{Epoch: l.Epoch, Asked: append(slices.Clone(l.Asked), -1)}, false)
		if n := len(l.Asked); n > 0 {
			wantSame(t, l, api.Lead{Epoch: l.Epoch, Asked: l.Asked[1:]}, false)
			wantSame(t, l, api.Lead{Epoch: l.Epoch, Asked: l.Asked[:n-1]}, false)
			for _, at := range []int{0, n / 2, n - 1} {
				wantSame(t, l, with(l, at, l.Asked[at]+1), false)
				wantSame(t, l, with(l, at, l.Asked[at]^1<<40), false)
			}
		}
	}
	wantSame(t, led(5, 9, -1), led(9, 5, -1), false)
	wantSame(t, led(5, 9, -1), led(5, -1, 9), false)
}

func TestSameAtEachPlace(t *testing.T) {
	l := all(64, 5)
	for at := range 64 {
		wantSame(t, l, with(l, at, 5), true)
		wantSame(t, l, with(l, at, 6), false)
		wantSame(t, l, with(l, at, -1), false)
	}
}

// R2: a list that is nil and one without elements are the same.

func TestNoNumbersAreAnsweredAlike(t *testing.T) {
	wantSame(t, api.Lead{}, api.Lead{Asked: []int64{}}, true)
	wantSame(t, api.Lead{Epoch: 3}, api.Lead{Epoch: 3, Asked: []int64{}}, true)
	wantSame(t, api.Lead{}, api.Lead{Epoch: 3, Asked: []int64{}}, false)
	for at, l := range []api.Lead{{Epoch: 3}, {Epoch: 3, Asked: []int64{}}, {Epoch: 3, Asked: []int64{5}[:0]}, {Epoch: 3, Asked: make([]int64, 0, 9)}} {
		name := strconv.Itoa(at)
		if e := Check(l); e != api.ErrArg {
			t.Errorf("%s: Check: %d", name, e)
		}
		if x, e := Start(l, 4); !equal(x, l) || e != api.ErrArg {
			t.Errorf("%s: Start: %v, %d", name, x, e)
		}
		if x, e := Granted(l, 0, 3, 5); !equal(x, l) || e != api.ErrArg {
			t.Errorf("%s: Granted: %v, %d", name, x, e)
		}
		if until, holds, e := Until(ten, l); until != 0 || holds || e != api.ErrArg {
			t.Errorf("%s: Until: %d, %v, %d", name, until, holds, e)
		}
		if Valid(ten, l, 0) || Due(ten, l, 0) {
			t.Errorf("%s: %v, %v", name, Valid(ten, l, 0), Due(ten, l, 0))
		}
	}
}
