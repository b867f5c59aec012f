package lead

import (
	"math"
	"math/big"
	"math/rand"
	"slices"
	"testing"

	"tattle/api"
)

// P18.3: Until, Valid, Due

// held is a term, and its hold.
type held struct {
	t    api.Terms
	hold int64
}

// goodTerms are terms that may be: with holds of 1, and of more, that are odd and even.
func goodTerms() []held {
	return []held{
		{ten, 7},
		{api.Terms{Term: 1, R: 1}, 1},
		{api.Terms{Term: 5, D: 4, R: 3}, 1},
		{api.Terms{Term: 2, R: 2}, 2},
		{api.Terms{Term: 4, D: 1, R: 9}, 3},
		{api.Terms{Term: 5, D: 1, R: 9}, 4},
		{api.Terms{Term: 10, R: 10}, 10},
		{api.Terms{Term: 1000000, R: farthest}, 1000000},
		{api.Terms{Term: 1000000, D: 1, R: farthest}, 999999},
		{api.Terms{Term: 1000000, R: 1}, 500000},
	}
}

// badTerms are terms that may not be.
func badTerms() []api.Terms {
	l := []api.Terms{{}, {Term: 10}, {Term: 10, D: 10, R: 4}, {Term: 2, D: 2, R: 4}, {Term: 1, D: 1, R: 1}, {Term: 1000000, D: 1000000, R: 9}}
	for _, far := range []int64{-1, farthest + 1, math.MinInt64, math.MaxInt64} {
		l = append(l, api.Terms{Term: far, D: 2, R: 4}, api.Terms{Term: 10, D: far, R: 4}, api.Terms{Term: 10, D: 2, R: far}, api.Terms{Term: far, D: far, R: far})
	}
	return append(l, api.Terms{Term: 0, D: 2, R: 4}, api.Terms{Term: 1000001, D: 2, R: 4}, api.Terms{Term: farthest, D: 2, R: 4}, api.Terms{Term: 10, D: 2})
}

// slowAgreed tries each number that stands there, and counts how many are no less; -1, if there is none.
func slowAgreed(l api.Lead) int64 {
	best := int64(-1)
	for _, asked := range l.Asked {
		count := 0
		for _, other := range l.Asked {
			if other >= asked {
				count++
			}
		}
		if 2*count > len(l.Asked) && asked > best {
			best = asked
		}
	}
	return best
}

// ticksLeft are how many there are from now until then, however far apart they are.
func ticksLeft(until, now int64) *big.Int {
	return new(big.Int).Sub(big.NewInt(until), big.NewInt(now))
}

// slowDue counts the ticks that are left.
func slowDue(hold, until, now int64) bool {
	return ticksLeft(until, now).Cmp(big.NewInt(hold/2)) <= 0
}

// nows are ticks about each edge of a lead that holds until then.
func nows(hold, until int64) []int64 {
	l := []int64{0, 1, 9, 10, farthest - 1, farthest, farthest + 1, 2 * farthest, -1, -10, -farthest, math.MinInt64, math.MinInt64 + 1, math.MaxInt64 - 1, math.MaxInt64}
	for _, edge := range []int64{until, until - hold/2, until - hold/2 - hold%2, until - hold} {
		l = append(l, edge-2, edge-1, edge, edge+1, edge+2)
	}
	return l
}

// wantUntil fails if Until answers otherwise.
func wantUntil(t *testing.T, x api.Terms, l api.Lead, want int64, yes bool, e api.Errno) {
	t.Helper()
	unchanged(t, l, func(l api.Lead) {
		if until, holds, ue := Until(x, l); until != want || holds != yes || ue != e {
			t.Errorf("Until(%v, %v): %d, %v, %d; want %d, %v, %d", x, l, until, holds, ue, want, yes, e)
		}
	})
}

// wantNow fails if Valid and Due answer otherwise.
func wantNow(t *testing.T, x api.Terms, l api.Lead, now int64, valid, due bool) {
	t.Helper()
	unchanged(t, l, func(l api.Lead) {
		if v, d := Valid(x, l, now), Due(x, l, now); v != valid || d != due {
			t.Errorf("of %v, %v at %d: valid %v, due %v; want %v, %v", x, l, now, v, d, valid, due)
		}
	})
}

// wantHeld fails if a lead that may be does not hold as the slow way tells.
func wantHeld(t *testing.T, x held, l api.Lead) {
	t.Helper()
	asked := slowAgreed(l)
	if asked < 0 {
		wantUntil(t, x.t, l, 0, false, api.OK)
		for _, now := range nows(x.hold, x.hold) {
			wantNow(t, x.t, l, now, false, true)
		}
		return
	}
	until := asked + x.hold
	wantUntil(t, x.t, l, until, true, api.OK)
	for _, now := range nows(x.hold, until) {
		wantNow(t, x.t, l, now, now < until, slowDue(x.hold, until, now))
	}
}

func TestExamples(t *testing.T) {
	l, _ := New(3)
	l, _ = Start(l, 1)
	l, _ = Granted(l, 0, 1, 5)
	wantUntil(t, ten, l, 0, false, api.OK)
	wantNow(t, ten, l, 0, false, true)
	l, _ = Granted(l, 2, 1, 9)
	wantUntil(t, ten, l, 12, true, api.OK)
	wantUntil(t, ten, led(5, 9, -1), 12, true, api.OK)
	wantGranted(t, l, 1, 2, 5, l, api.ErrStale)
}

func TestUntil(t *testing.T) {
	for _, x := range goodTerms() {
		for _, l := range goodLeads() {
			wantHeld(t, x, l)
		}
	}
}

// TestUntilOfAFew has, of one node, an odd and an even number, less than a majority, just one, and all, at different places in time.
func TestUntilOfAFew(t *testing.T) {
	for _, c := range []struct {
		l     api.Lead
		until int64
	}{
		{led(-1), -1}, {led(0), 7}, {led(5), 12}, {led(farthest), farthest + 7},
		{led(5, -1), -1}, {led(5, 9), 12}, {led(5, 5), 12}, {led(0, farthest), 7},
		{led(5, -1, -1), -1}, {led(5, 9, -1), 12}, {led(5, 9, 9), 16}, {led(5, 7, 9), 14}, {led(0, 0, 9), 7},
		{led(5, 9, -1, -1), -1}, {led(5, 7, 9, -1), 12}, {led(5, 7, 9, 9), 14}, {led(5, 5, 9, 9), 12}, {led(1, 5, 7, 9), 12},
		{led(9, 9, -1, -1, -1), -1}, {led(5, 7, 9, -1, -1), 12}, {led(1, 5, 7, 9, -1), 12}, {led(1, 2, 7, 9, 10), 14},
	} {
		eachOrder(c.l.Asked, func(order []int64) {
			if c.until < 0 {
				wantUntil(t, ten, led(order...), 0, false, api.OK)
			} else {
				wantUntil(t, ten, led(order...), c.until, true, api.OK)
			}
		})
	}
}

// eachOrder calls it with the numbers in each order.
func eachOrder(l []int64, call func(order []int64)) {
	var put func(order, rest []int64)
	put = func(order, rest []int64) {
		if len(rest) == 0 {
			call(order)
		}
		for i, x := range rest {
			put(append(slices.Clone(order), x), slices.Delete(slices.Clone(rest), i, i+1))
		}
	}
	put(nil, l)
}

// TestUntilAboutAMajority: granted by one less than a majority, by one, and by all, of each count of nodes, wherever they stand.
func TestUntilAboutAMajority(t *testing.T) {
	r := rand.New(rand.NewSource(seed))
	for n := 1; n <= 64; n++ {
		for _, first := range []int{0, n - n/2 - 1, r.Intn(n)} {
			l := all(n, -1)
			for count := 1; count <= n; count++ {
				l.Asked[(first+count-1)%n] = 40
				if 2*count > n {
					wantUntil(t, ten, l, 47, true, api.OK)
				} else {
					wantUntil(t, ten, l, 0, false, api.OK)
				}
				wantNow(t, ten, l, 46, 2*count > n, true)
				wantNow(t, ten, l, 40, 2*count > n, 2*count <= n)
			}
		}
	}
}

// TestUntilOfAllSmall goes through all leads of up to four nodes with small numbers.
func TestUntilOfAllSmall(t *testing.T) {
	met := map[bool]int{}
	for _, x := range goodTerms()[:5] {
		var put func(asked []int64)
		put = func(asked []int64) {
			if len(asked) > 0 {
				wantHeld(t, x, led(asked...))
				met[slowAgreed(led(asked...)) >= 0]++
			}
			if len(asked) < 4 {
				for next := int64(-1); next < 4; next++ {
					put(append(slices.Clone(asked), next))
				}
			}
		}
		put(nil)
	}
	if met[true] < 1000 || met[false] < 100 {
		t.Errorf("met: %v", met)
	}
}

func TestUntilOfDraws(t *testing.T) {
	r := rand.New(rand.NewSource(seed))
	met := map[bool]int{}
	for range 3000 {
		l := all(1+r.Intn(64), -1)
		for i := range l.Asked {
			switch r.Intn(3) {
			case 0:
				l.Asked[i] = r.Int63n(20)
			case 1:
				l.Asked[i] = goodAsked[r.Intn(len(goodAsked))]
			}
		}
		wantHeld(t, goodTerms()[r.Intn(len(goodTerms()))], l)
		met[slowAgreed(l) >= 0]++
	}
	if met[true] < 500 || met[false] < 100 {
		t.Errorf("met: %v", met)
	}
}

func TestValidAboutUntil(t *testing.T) {
	for _, x := range goodTerms() {
		for _, asked := range goodAsked {
			for _, n := range []int{1, 2, 3, 64} {
				until := asked + x.hold
				l := all(n, asked)
				for now, want := range map[int64]bool{asked: true, until - 1: true, until: false, until + 1: false} {
					if got := Valid(x.t, l, now); got != want {
						t.Errorf("Valid(%v, %v, %d): %v", x.t, l, now, got)
					}
				}
			}
		}
	}
}

// TestDueAboutHalfOfTheHold writes each edge down.
func TestDueAboutHalfOfTheHold(t *testing.T) {
	for _, c := range []struct {
		t     api.Terms
		first int64 // at which it is due, asked at 100
	}{
		{api.Terms{Term: 1, R: 1}, 101},                   // hold 1: half of it is 0
		{api.Terms{Term: 2, R: 2}, 101},                   // hold 2
		{api.Terms{Term: 4, D: 1, R: 9}, 102},             // hold 3
		{api.Terms{Term: 5, D: 1, R: 9}, 102},             // hold 4
		{ten, 104},                                        // hold 7
		{api.Terms{Term: 10, R: 10}, 105},                 // hold 10
		{api.Terms{Term: 1000000, R: farthest}, 500100},   // hold 1000000
		{api.Terms{Term: 1000000, D: 1, R: 1e12}, 500100}, // hold 999999
	} {
		for _, l := range []api.Lead{led(100), led(100, 100), led(-1, 100, 100), led(100, 7, 100, 100)} {
			for ahead := int64(1); ahead <= 3; ahead++ {
				if Due(c.t, l, c.first-ahead) {
					t.Errorf("Due(%v, %v, %d)", c.t, l, c.first-ahead)
				}
				if !Due(c.t, l, c.first+ahead-1) {
					t.Errorf("not Due(%v, %v, %d)", c.t, l, c.first+ahead-1)
				}
			}
		}
	}
}

// TestOfWhatMayNotBe has terms, and leads, that may not be, alone and both.
func TestOfWhatMayNotBe(t *testing.T) {
	ticks := []int64{0, 5, 11, 12, farthest, -1, math.MinInt64, math.MaxInt64}
	refused := func(x api.Terms, l api.Lead) {
		wantUntil(t, x, l, 0, false, api.ErrArg)
		for _, now := range ticks {
			wantNow(t, x, l, now, false, false)
		}
	}
	for _, x := range badTerms() {
		for _, l := range []api.Lead{led(5, 9, -1), led(5, -1, -1), led(-1), all(64, 5), all(64, farthest)} {
			refused(x, l)
		}
		refused(x, led())
		refused(x, led(5, -2))
		refused(x, all(65, 5))
	}
	for _, l := range badLeads() {
		for _, x := range goodTerms() {
			refused(x.t, l)
		}
	}
}
