package grace

import (
	"math"
	"math/rand"
	"slices"
	"strconv"
	"testing"

	"tattle/api"
)

// The tests' draws are from this seed, so that a failure comes again.
const seed = 1

// greatest is the greatest incarnation that there is.
const greatest = math.MaxUint64

// last is the last tick that there is.
const last = int64(1) << 40

// badMins, badMosts and badAlls are what rules never have.
var (
	badMins  = []int{0, 1001, -1, 1002, -2, -1000, 2000, 1 << 31, -1 << 31, 1 << 32, 1<<32 + 1, -1<<32 + 1, math.MinInt, math.MinInt + 1, math.MaxInt - 1, math.MaxInt}
	badMosts = []int{0, 21, -1, 22, -2, -20, 256, 257, 1 << 31, -1 << 31, 1 << 32, 1<<32 + 1, -1<<32 + 1, math.MinInt, math.MinInt + 1, math.MaxInt - 1, math.MaxInt}
	badAlls  = []int{-1, 11, -2, 12, -10, 256, 257, 1 << 31, -1 << 31, 1 << 32, 1<<32 + 1, -1 << 32, -1<<32 + 1, math.MinInt, math.MinInt + 1, math.MaxInt - 1, math.MaxInt}
)

// badNumbers are no nodes' numbers.
var badNumbers = []int{-1, 64, 65, -2, -63, -64, 127, 128, 256, 319, 1 << 31, -1 << 31, 1 << 32, 1<<32 + 5, -1 << 32, -1<<32 + 5, math.MinInt, math.MinInt + 1, math.MaxInt - 1, math.MaxInt}

// badCounts are how many nodes there never are.
var badCounts = []int{0, 65, -1, 66, -2, -64, 127, 128, 256, 257, 320, 1 << 31, -1 << 31, 1 << 32, 1<<32 + 1, 1<<32 + 64, -1<<32 + 1, math.MinInt, math.MinInt + 1, math.MaxInt - 1, math.MaxInt}

// badFewers are fewer confirmations than none.
var badFewers = []int{-1, -2, -10, -64, -1 << 31, -1 << 32, -1<<32 + 1, math.MinInt, math.MinInt + 1}

// badTicks are none of a node's.
var badTicks = []int64{-1, last + 1, -2, last + 2, -last, 2 * last, -1 << 31, -1 << 32, -1<<32 + 5, 1 << 62, math.MinInt64, math.MinInt64 + 1, math.MaxInt64 - 1, math.MaxInt64}

// edgeWhos, edgeIncs and edgeTicks are at either end of what may be, and between.
var (
	edgeWhos  = []int{0, 1, 5, 31, 32, 62, 63}
	edgeIncs  = []uint64{0, 1, 3, 1<<32 - 1, 1 << 32, 1<<63 - 1, 1 << 63, greatest - 1, greatest}
	edgeTicks = []int64{0, 1, 2, 255, 1<<31 - 1, 1 << 31, 1 << 32, last - 1, last}
)

func doubt(who int, inc uint64, at int64, by ...int) api.Doubt {
	return api.Doubt{Who: who, Inc: inc, At: at, By: by}
}

func rules(min, most, all int) api.Rules { return api.Rules{Min: min, Most: most, All: all} }

// upTo are n numbers from 0 on.
func upTo(n int) []int {
	var l []int
	for i := range n {
		l = append(l, i)
	}
	return l
}

// but is a list with something else at a place.
func but[T any](l []T, at int, x T) []T {
	then := slices.Clone(l)
	then[at] = x
	return then
}

// plus is a list with one more at a place.
func plus[T any](l []T, at int, x T) []T { return slices.Insert(slices.Clone(l), at, x) }

// less is a list without one.
func less[T any](l []T, at int) []T { return slices.Delete(slices.Clone(l), at, at+1) }

// swapped is a list of which two have changed places.
func swapped[T any](l []T, i, j int) []T {
	then := slices.Clone(l)
	then[i], then[j] = then[j], then[i]
	return then
}

// each is a doubt of each of n nodes, of the same incarnation, since the same tick, by the same.
func each(n int, inc uint64, at int64, by ...int) []api.Doubt {
	var l []api.Doubt
	for who := range n {
		l = append(l, doubt(who, inc, at, slices.Clone(by)...))
	}
	return l
}

// clone is doubts that have nothing in common with others.
func clone(l []api.Doubt) []api.Doubt {
	var then []api.Doubt
	for _, x := range l {
		then = append(then, doubt(x.Who, x.Inc, x.At, slices.Clone(x.By)...))
	}
	return then
}

func equalDoubts(x, y api.Doubt) bool {
	return x.Who == y.Who && x.Inc == y.Inc && x.At == y.At && slices.Equal(x.By, y.By)
}

func equal(a, b []api.Doubt) bool { return slices.EqualFunc(a, b, equalDoubts) }

// badBys are none by whom a node is doubted: nobody, and at each place a number that is none, one that comes twice, and one that falls.
func badBys() [][]int {
	bys := [][]int{nil, {}, {7, 7}, {7, 6}, {63, 63}, {63, 0}, {0, 0}, {1, 2, 1}, {5, 3, 4}, {4, 5, 3}, upTo(65), upTo(128), slices.Repeat([]int{9}, 64), plus(upTo(64), 0, 0), plus(upTo(64), 64, 63), plus(upTo(63), 63, 64), plus(upTo(63)[1:], 0, -1)}
	for _, n := range []int{1, 2, 3} {
		for at := range n {
			for _, x := range badNumbers {
				bys = append(bys, but(upTo(n), at, x))
			}
		}
	}
	for at := range 64 {
		bys = append(bys, but(upTo(64), at, -1), but(upTo(64), at, 64), but(upTo(64), at, badNumbers[at%len(badNumbers)]))
		if at > 0 {
			bys = append(bys, but(upTo(64), at, at-1), but(upTo(64), at-1, at), swapped(upTo(64), at-1, at), but(upTo(64), at, 0))
		}
	}
	return bys
}

// bad is each doubt that may not be, of a node at who.
func bad(who int) []api.Doubt {
	var l []api.Doubt
	for _, x := range badNumbers {
		l = append(l, doubt(x, 2, 9, 1, 2))
	}
	for _, at := range badTicks {
		l = append(l, doubt(who, 2, at, 1, 2))
	}
	for _, by := range badBys() {
		l = append(l, doubt(who, 2, 9, by...))
	}
	return l
}

// unordered are doubts whose Who comes twice, or falls, at each place.
func unordered() [][]api.Doubt {
	var lists [][]api.Doubt
	for _, n := range []int{2, 3, 7, 63, 64} {
		l := each(n, 2, 9, 4)
		slices.Reverse(l)
		lists = append(lists, l)
		l = each(n, 2, 9, 4)
		for at := range n - 1 {
			lists = append(lists,
				but(l, at, doubt(at+1, 2, 9, 4)),
				but(l, at, doubt(at+1, 3, 8, 5)),
				but(l, at+1, doubt(at, 2, 9, 4)),
				but(l, at+1, doubt(at, 0, 0, 63)),
				but(l, at, doubt(63, 2, 9, 4)),
				but(l, at+1, doubt(0, 2, 9, 4)),
				swapped(l, at, at+1))
		}
	}
	// Of the first and the last node there are, and of two that do not stand beside one another.
	return append(lists,
		[]api.Doubt{doubt(63, 0, 0, 0), doubt(63, 0, 0, 0)},
		[]api.Doubt{doubt(63, 0, 0, 0), doubt(0, 0, 0, 0)},
		[]api.Doubt{doubt(0, 0, 0, 0), doubt(0, 0, 0, 0)},
		[]api.Doubt{doubt(4, 0, 0, 0), doubt(9, 0, 0, 0), doubt(4, 0, 0, 0)})
}

// badDoubts are doubts that may not be: too many, out of order, and with one at each place that may not be.
func badDoubts() [][]api.Doubt {
	lists := unordered()
	for _, n := range []int{65, 66, 128, 500} {
		lists = append(lists, each(n, 0, 1, 2), slices.Repeat([]api.Doubt{doubt(5, 0, 1, 2)}, n))
	}
	for at := range 65 {
		lists = append(lists, plus(each(64, 2, 9, 4), at, doubt(min(at, 63), 2, 9, 4)))
	}
	for _, n := range []int{1, 2, 3} {
		for at := range n {
			for _, x := range bad(at) {
				lists = append(lists, but(each(n, 2, 9, 4), at, x))
			}
		}
	}
	for at := range 64 {
		l := bad(at)
		for k := range 5 {
			lists = append(lists, but(each(64, 2, 9, 4), at, l[(at*5+k)%len(l)]))
		}
	}
	return lists
}

// someBadDoubts are few of those, of each kind.
func someBadDoubts() [][]api.Doubt {
	var lists [][]api.Doubt
	for at, l := range badDoubts() {
		if at%23 == 0 {
			lists = append(lists, l)
		}
	}
	return append(lists,
		each(65, 0, 1, 2),
		[]api.Doubt{doubt(64, 1, 1, 1)}, []api.Doubt{doubt(-1, 1, 1, 1)},
		[]api.Doubt{doubt(1, 1, -1, 1)}, []api.Doubt{doubt(1, 1, last+1, 1)},
		[]api.Doubt{doubt(1, 1, 1)}, []api.Doubt{doubt(1, 1, 1, 1, 1)}, []api.Doubt{doubt(1, 1, 1, 2, 1)}, []api.Doubt{doubt(1, 1, 1, -1)}, []api.Doubt{doubt(1, 1, 1, 64)})
}

// drawnNodes are nodes below a number, some of them, rising, one at the least.
func drawnNodes(r *rand.Rand, below int) []int {
	l := r.Perm(below)[:1+r.Intn(below)]
	slices.Sort(l)
	return l
}

// drawn is doubts of nodes below a number, some of them, of few incarnations and ticks.
func drawn(r *rand.Rand, below int) []api.Doubt {
	var l []api.Doubt
	for _, who := range drawnNodes(r, below) {
		if r.Intn(4) > 0 {
			l = append(l, doubt(who, uint64(r.Intn(4)), int64(r.Intn(30)), drawnNodes(r, 1+r.Intn(8))...))
		}
	}
	return l
}

func drawnRules(r *rand.Rand) api.Rules {
	return rules(1+r.Intn(4), 1+r.Intn(5), r.Intn(6))
}

// slowGrace takes from the greatest grace one by one.
func slowGrace(r api.Rules, n, c int) int64 {
	least := 0
	for range strconv.FormatInt(int64(n), 2) {
		least += r.Min
	}
	if r.All == 0 {
		return int64(least)
	}
	grace := least * r.Most
	apart := grace - least
	for less := 1; less*r.All <= apart*min(c, r.All); less++ {
		grace--
	}
	return int64(grace)
}

// slowRaise builds doubts anew, node by node.
func slowRaise(l []api.Doubt, who int, inc uint64, by int, now int64) []api.Doubt {
	var then []api.Doubt
	for node := range 64 {
		at := slices.IndexFunc(l, func(x api.Doubt) bool { return x.Who == node })
		switch {
		case node == who && (at < 0 || l[at].Inc < inc):
			then = append(then, doubt(who, inc, now, by))
		case node == who && l[at].Inc == inc:
			var all []int
			for n := range 64 {
				if n == by || slices.Contains(l[at].By, n) {
					all = append(all, n)
				}
			}
			then = append(then, doubt(who, inc, l[at].At, all...))
		case at >= 0:
			then = append(then, l[at])
		}
	}
	return then
}

func slowClear(l []api.Doubt, who int, inc uint64) []api.Doubt {
	var then []api.Doubt
	for _, x := range l {
		if x.Who != who || x.Inc > inc {
			then = append(then, x)
		}
	}
	return then
}

func slowRipe(l []api.Doubt, r api.Rules, n int, now int64) (ripe, others []api.Doubt) {
	for _, x := range l {
		if now-slowGrace(r, n, len(x.By)-1) >= x.At {
			ripe = append(ripe, x)
		} else {
			others = append(others, x)
		}
	}
	return ripe, others
}

// orders calls f with each order of the numbers below n.
func orders(n int, f func(l []int)) {
	l := upTo(n)
	var place func(at int)
	place = func(at int) {
		if at == n {
			f(l)
			return
		}
		for i := at; i < n; i++ {
			l[at], l[i] = l[i], l[at]
			place(at + 1)
			l[at], l[i] = l[i], l[at]
		}
	}
	place(0)
}

// wantStays fails if doubts that were handed in are not as they were.
func wantStays(t *testing.T, call string, l, was []api.Doubt) {
	t.Helper()
	if !equal(l, was) {
		t.Errorf("%s changed %v to %v", call, was, l)
	}
}

func wantMay(t *testing.T, r api.Rules, want api.Errno) {
	t.Helper()
	if e := May(r); e != want {
		t.Errorf("May(%v): %d; want %d", r, e, want)
	}
}

func wantGrace(t *testing.T, r api.Rules, n, c int, want int64, wantE api.Errno) {
	t.Helper()
	if g, e := Grace(r, n, c); g != want || e != wantE {
		t.Errorf("Grace(%v, %d, %d): %d, %d; want %d, %d", r, n, c, g, e, want, wantE)
	}
}

func wantCheck(t *testing.T, l []api.Doubt, want api.Errno) {
	t.Helper()
	was := clone(l)
	if e := Check(l); e != want {
		t.Errorf("Check(%v): %d; want %d", l, e, want)
	}
	wantStays(t, "Check", l, was)
}

func wantSame(t *testing.T, a, b []api.Doubt, want bool) {
	t.Helper()
	wasA, wasB := clone(a), clone(b)
	if x := Same(a, b); x != want {
		t.Errorf("Same(%v, %v): %v", a, b, x)
	}
	if x := Same(b, a); x != want {
		t.Errorf("Same(%v, %v): %v", b, a, x)
	}
	wantStays(t, "Same", a, wasA)
	wantStays(t, "Same", b, wasB)
}

func wantRaise(t *testing.T, l []api.Doubt, who int, inc uint64, by int, now int64, want []api.Doubt, wantE api.Errno) {
	t.Helper()
	was := clone(l)
	if x, e := Raise(l, who, inc, by, now); !equal(x, want) || e != wantE {
		t.Errorf("Raise(%v, %d, %d, %d, %d): %v, %d; want %v, %d", l, who, inc, by, now, x, e, want, wantE)
	}
	wantStays(t, "Raise", l, was)
}

// wantRaiseRefused fails if Raise does not refuse it, and answers the doubts as they were.
func wantRaiseRefused(t *testing.T, l []api.Doubt, who int, inc uint64, by int, now int64) {
	t.Helper()
	wantRaise(t, l, who, inc, by, now, clone(l), api.ErrArg)
}

func wantClear(t *testing.T, l []api.Doubt, who int, inc uint64, want []api.Doubt, wantE api.Errno) {
	t.Helper()
	was := clone(l)
	if x, e := Clear(l, who, inc); !equal(x, want) || e != wantE {
		t.Errorf("Clear(%v, %d, %d): %v, %d; want %v, %d", l, who, inc, x, e, want, wantE)
	}
	wantStays(t, "Clear", l, was)
}

func wantRipe(t *testing.T, l []api.Doubt, r api.Rules, n int, now int64, ripe, others []api.Doubt, wantE api.Errno) {
	t.Helper()
	was := clone(l)
	if x, o, e := Ripe(l, r, n, now); !equal(x, ripe) || !equal(o, others) || e != wantE {
		t.Errorf("Ripe(%v, %v, %d, %d): %v, %v, %d; want %v, %v, %d", l, r, n, now, x, o, e, ripe, others, wantE)
	}
	wantStays(t, "Ripe", l, was)
}

func wantRipeLikeSlow(t *testing.T, l []api.Doubt, r api.Rules, n int, now int64) {
	t.Helper()
	ripe, others := slowRipe(l, r, n, now)
	wantRipe(t, l, r, n, now, ripe, others, api.OK)
}

// mustNoError panics where a call of a test's own making failed.
func mustNoError(e api.Errno) {
	if e != api.OK {
		panic("error " + strconv.Itoa(int(e)))
	}
}

func graceOf(r api.Rules, n, c int) int64 {
	g, e := Grace(r, n, c)
	mustNoError(e)
	return g
}

func raised(l []api.Doubt, who int, inc uint64, by int, now int64) []api.Doubt {
	then, e := Raise(l, who, inc, by, now)
	mustNoError(e)
	return then
}

func cleared(l []api.Doubt, who int, inc uint64) []api.Doubt {
	then, e := Clear(l, who, inc)
	mustNoError(e)
	return then
}

// P9.1

func TestMayOfWhatMayBe(t *testing.T) {
	for _, min := range []int{1, 2, 500, 999, 1000} {
		for _, most := range []int{1, 2, 10, 19, 20} {
			for all := range 11 {
				wantMay(t, rules(min, most, all), api.OK)
			}
		}
	}
}

func TestMayOfEachMinMostAndAll(t *testing.T) {
	ok := func(n, from, to int) api.Errno {
		if n < from || n > to {
			return api.ErrArg
		}
		return api.OK
	}
	for n := -2000; n <= 2000; n++ {
		wantMay(t, rules(n, 3, 4), ok(n, 1, 1000))
		wantMay(t, rules(2, n, 4), ok(n, 1, 20))
		wantMay(t, rules(2, 3, n), ok(n, 0, 10))
	}
}

func TestMayOfWhatMayNotBe(t *testing.T) {
	wantMay(t, api.Rules{}, api.ErrArg)
	for _, r := range badRules() {
		wantMay(t, r, api.ErrArg)
	}
}

// badRules are rules that may not be, in one, in two, and in all three.
func badRules() []api.Rules {
	var l []api.Rules
	for _, min := range badMins {
		l = append(l, rules(min, 3, 4), rules(min, 1, 0), rules(min, 20, 10), rules(min, 0, 4), rules(min, 3, -1), rules(min, 21, 11))
	}
	for _, most := range badMosts {
		l = append(l, rules(2, most, 4), rules(1, most, 0), rules(1000, most, 10), rules(0, most, 4), rules(2, most, 11), rules(1001, most, -1))
	}
	for _, all := range badAlls {
		l = append(l, rules(2, 3, all), rules(1, 1, all), rules(1000, 20, all), rules(1001, 3, all), rules(2, 0, all), rules(0, 21, all))
	}
	return l
}

func TestGraceOfTheExample(t *testing.T) {
	r := rules(2, 3, 4)
	wantGrace(t, r, 5, 0, 18, api.OK)
	wantGrace(t, r, 5, 2, 12, api.OK)
	wantGrace(t, r, 5, 9, 6, api.OK)
}

func TestGraceOfEachPowerOfTwoAndOfOneLess(t *testing.T) {
	for _, c := range [][2]int{{1, 1}, {2, 2}, {3, 2}, {4, 3}, {7, 3}, {8, 4}, {15, 4}, {16, 5}, {31, 5}, {32, 6}, {63, 6}, {64, 7}} {
		n, bits := c[0], int64(c[1])
		wantGrace(t, rules(1, 1, 0), n, 0, bits, api.OK)
		wantGrace(t, rules(2, 3, 4), n, 0, 6*bits, api.OK)
		wantGrace(t, rules(2, 3, 4), n, 1, 5*bits, api.OK)
		wantGrace(t, rules(2, 3, 4), n, 4, 2*bits, api.OK)
		wantGrace(t, rules(1000, 20, 10), n, 0, 20000*bits, api.OK)
		wantGrace(t, rules(1000, 20, 10), n, 9, 2900*bits, api.OK)
		wantGrace(t, rules(1000, 20, 10), n, 10, 1000*bits, api.OK)
	}
}

func TestGraceWithNoneWithAllAndWithMore(t *testing.T) {
	for c, want := range []int64{18, 15, 12, 9, 6, 6, 6} {
		wantGrace(t, rules(2, 3, 4), 5, c, want, api.OK)
	}
	for all := 1; all <= 10; all++ {
		r := rules(7, 20, all)
		wantGrace(t, r, 64, 0, 980, api.OK)
		for _, c := range []int{all, all + 1, all + 2, 2 * all, 63, 64, 1 << 31, 1 << 32, 1<<32 + 1, 1 << 62, math.MaxInt - 1, math.MaxInt} {
			wantGrace(t, r, 64, c, 49, api.OK)
		}
	}
	for all := 2; all <= 10; all++ {
		if g := graceOf(rules(7, 20, all), 64, all-1); g <= 49 {
			t.Errorf("Grace with one less than %d: %d", all, g)
		}
	}
}

func TestGraceWhereAllIsNone(t *testing.T) {
	for _, c := range []int{0, 1, 2, 10, 63, 1 << 32, math.MaxInt} {
		wantGrace(t, rules(5, 9, 0), 3, c, 10, api.OK)
		wantGrace(t, rules(1, 20, 0), 1, c, 1, api.OK)
		wantGrace(t, rules(1000, 20, 0), 64, c, 7000, api.OK)
	}
}

func TestGraceWhereMostIsOne(t *testing.T) {
	for all := range 11 {
		for _, c := range []int{0, 1, 2, 10, 11, math.MaxInt} {
			wantGrace(t, rules(5, 1, all), 3, c, 10, api.OK)
			wantGrace(t, rules(1000, 1, all), 64, c, 7000, api.OK)
		}
	}
}

func TestGraceOfWhatDoesNotGoEvenly(t *testing.T) {
	for _, x := range []struct {
		r    api.Rules
		n    int
		want []int64
	}{
		{rules(1, 2, 3), 1, []int64{2, 2, 2, 1, 1}},
		{rules(1, 3, 4), 1, []int64{3, 3, 2, 2, 1, 1}},
		{rules(7, 2, 3), 2, []int64{28, 24, 19, 14, 14}},
		{rules(1, 20, 10), 1, []int64{20, 19, 17, 15, 13, 11, 9, 7, 5, 3, 1, 1}},
		{rules(3, 4, 7), 5, []int64{36, 33, 29, 25, 21, 17, 13, 9, 9}},
		{rules(1, 2, 10), 64, []int64{14, 14, 13, 12, 12, 11, 10, 10, 9, 8, 7, 7}},
	} {
		for c, want := range x.want {
			wantGrace(t, x.r, x.n, c, want, api.OK)
		}
	}
}

func TestGraceLikeTheSlowOne(t *testing.T) {
	for _, min := range []int{1, 2, 3, 7, 13} {
		for _, most := range []int{1, 2, 3, 5, 19, 20} {
			for all := range 11 {
				for _, n := range []int{1, 2, 3, 5, 17, 63, 64} {
					for c := range 13 {
						r := rules(min, most, all)
						wantGrace(t, r, n, c, slowGrace(r, n, c), api.OK)
					}
				}
			}
		}
	}
	r := rand.New(rand.NewSource(seed))
	for range 2000 {
		x, n, c := rules(1+r.Intn(1000), 1+r.Intn(20), r.Intn(11)), 1+r.Intn(64), r.Intn(15)
		wantGrace(t, x, n, c, slowGrace(x, n, c), api.OK)
	}
}

func TestGraceAmongEachCount(t *testing.T) {
	for n := -200; n <= 200; n++ {
		if n < 1 || n > 64 {
			wantGrace(t, rules(2, 3, 4), n, 0, 0, api.ErrArg)
			wantGrace(t, rules(2, 3, 0), n, 1, 0, api.ErrArg)
			continue
		}
		wantGrace(t, rules(2, 3, 4), n, 0, int64(6*len(strconv.FormatInt(int64(n), 2))), api.OK)
	}
}

func TestGraceOfWhatMayNotBe(t *testing.T) {
	good := []api.Rules{rules(2, 3, 4), rules(1, 1, 0), rules(1000, 20, 10), rules(1, 20, 0)}
	for _, x := range good {
		for _, n := range badCounts {
			for _, c := range append([]int{0, 1, 10, 11, math.MaxInt}, badFewers...) {
				wantGrace(t, x, n, c, 0, api.ErrArg)
			}
		}
		for _, c := range badFewers {
			for n := 1; n <= 64; n++ {
				wantGrace(t, x, n, c, 0, api.ErrArg)
			}
		}
	}
	for _, x := range append(badRules(), api.Rules{}) {
		for _, n := range []int{1, 2, 5, 64, 0, 65, math.MinInt} {
			for _, c := range []int{0, 1, 10, math.MaxInt, -1, math.MinInt} {
				wantGrace(t, x, n, c, 0, api.ErrArg)
			}
		}
	}
}

func TestCheckOfWhatMayBe(t *testing.T) {
	wantCheck(t, nil, api.OK)
	wantCheck(t, []api.Doubt{}, api.OK)
	wantCheck(t, each(3, 1, 1, 1)[:0], api.OK)
	for _, who := range edgeWhos {
		for _, inc := range edgeIncs {
			for _, at := range edgeTicks {
				wantCheck(t, []api.Doubt{doubt(who, inc, at, 0)}, api.OK)
				wantCheck(t, []api.Doubt{doubt(who, inc, at, 63)}, api.OK)
				wantCheck(t, []api.Doubt{doubt(who, inc, at, who)}, api.OK)
			}
		}
	}
	for n := range 65 {
		wantCheck(t, each(n, 7, last, 5), api.OK)
		wantCheck(t, each(n, greatest, 0, upTo(64)...), api.OK)
		wantCheck(t, each(64, 2, 9, 4)[n:], api.OK)
	}
	for at := range 64 {
		wantCheck(t, less(each(64, 2, 9, 4), at), api.OK)
		wantCheck(t, []api.Doubt{doubt(at, 2, 9, less(upTo(64), at)...)}, api.OK)
		wantCheck(t, []api.Doubt{doubt(5, 2, 9, upTo(at+1)...)}, api.OK)
		wantCheck(t, []api.Doubt{doubt(5, 2, 9, upTo(64)[at:]...)}, api.OK)
	}
	wantCheck(t, []api.Doubt{doubt(0, 9, last, 0, 63), doubt(7, 0, 0, 7), doubt(8, greatest, 2, 1, 2, 3), doubt(63, 1, 1, upTo(64)...)}, api.OK)
}

func TestCheckOfEachWhoAtAndBy(t *testing.T) {
	ok := func(may bool) api.Errno {
		if may {
			return api.OK
		}
		return api.ErrArg
	}
	for n := -200; n <= 200; n++ {
		wantNode, wantTick := ok(n >= 0 && n <= 63), ok(n >= 0)
		wantCheck(t, []api.Doubt{doubt(n, 1, 3, 5)}, wantNode)
		wantCheck(t, []api.Doubt{doubt(5, 1, 3, n)}, wantNode)
		wantCheck(t, []api.Doubt{doubt(4, 1, 3, 5), doubt(5, 1, 3, n), doubt(6, 1, 3, 5)}, wantNode)
		wantCheck(t, []api.Doubt{doubt(5, 1, int64(n), 5)}, wantTick)
		wantCheck(t, []api.Doubt{doubt(4, 1, 3, 5), doubt(5, 1, int64(n), 5), doubt(6, 1, 3, 5)}, wantTick)
		wantCheck(t, []api.Doubt{doubt(5, 1, last+int64(n), 5)}, ok(n <= 0))
	}
}

func TestCheckOfTooMany(t *testing.T) {
	wantCheck(t, each(64, 0, 1, 2), api.OK)
	wantCheck(t, each(65, 0, 1, 2), api.ErrArg)
	wantCheck(t, []api.Doubt{doubt(5, 0, 1, upTo(64)...)}, api.OK)
	wantCheck(t, []api.Doubt{doubt(5, 0, 1, upTo(65)...)}, api.ErrArg)
	for _, n := range []int{66, 100, 128, 256, 257, 320, 1000} {
		wantCheck(t, each(n, 0, 1, 2), api.ErrArg)
		wantCheck(t, slices.Repeat([]api.Doubt{doubt(63, 0, 1, 2)}, n), api.ErrArg)
		wantCheck(t, append(each(64, 0, 1, 2), each(n-64, 0, 1, 2)...), api.ErrArg)
		wantCheck(t, []api.Doubt{doubt(5, 0, 1, upTo(n)...)}, api.ErrArg)
		wantCheck(t, []api.Doubt{doubt(5, 0, 1, slices.Repeat([]int{63}, n)...)}, api.ErrArg)
	}
}

func TestCheckOfWhatIsOutOfOrder(t *testing.T) {
	for _, l := range unordered() {
		wantCheck(t, l, api.ErrArg)
	}
	// Of three in each order one alone rises, of Who as of By.
	three, by := []api.Doubt{doubt(2, 0, 3, 1), doubt(5, 0, 3, 1), doubt(63, 0, 3, 1)}, []int{0, 9, 63}
	orders(3, func(l []int) {
		want := api.ErrArg
		if slices.IsSorted(l) {
			want = api.OK
		}
		wantCheck(t, []api.Doubt{three[l[0]], three[l[1]], three[l[2]]}, want)
		wantCheck(t, []api.Doubt{doubt(5, 0, 3, by[l[0]], by[l[1]], by[l[2]])}, want)
	})
}

func TestCheckOfOneThatMayNotBeAtEachPlace(t *testing.T) {
	for _, l := range badDoubts() {
		wantCheck(t, l, api.ErrArg)
	}
	for _, n := range []int{1, 2, 3, 7, 63, 64} {
		for at := range n {
			for k, x := range bad(at) {
				if k%7 == at%7 || n < 4 {
					wantCheck(t, but(each(n, 2, 9, 4), at, x), api.ErrArg)
				}
			}
		}
	}
}

func TestSameOfTheSame(t *testing.T) {
	wantSame(t, nil, nil, true)
	wantSame(t, nil, []api.Doubt{}, true)
	wantSame(t, []api.Doubt{}, each(3, 1, 1, 1)[:0], true)
	for n := range 65 {
		wantSame(t, each(n, 3, 2, 1, 5), each(n, 3, 2, 1, 5), true)
		wantSame(t, []api.Doubt{doubt(5, 3, 2, upTo(n)...)}, []api.Doubt{doubt(5, 3, 2, upTo(n)...)}, true)
	}
	l := each(7, greatest, last, 0, 63)
	wantSame(t, l, l, true)
	for _, inc := range edgeIncs {
		for _, at := range edgeTicks {
			wantSame(t, []api.Doubt{doubt(5, inc, at, 9)}, []api.Doubt{doubt(5, inc, at, 9)}, true)
		}
	}
	// Nobody is nobody.
	wantSame(t, []api.Doubt{{Who: 5, By: nil}}, []api.Doubt{{Who: 5, By: []int{}}}, true)
}

func TestSameOfDifferentLength(t *testing.T) {
	for n := 1; n <= 64; n++ {
		l := each(n, 0, 1, 2)
		wantSame(t, l, nil, false)
		wantSame(t, l, []api.Doubt{}, false)
		wantSame(t, l, l[:n-1], false)
		wantSame(t, l, l[1:], false)
		wantSame(t, l, each(n+1, 0, 1, 2), false)
		wantSame(t, l, append(clone(l), api.Doubt{}), false)
		wantSame(t, []api.Doubt{doubt(5, 0, 1, upTo(n)...)}, []api.Doubt{doubt(5, 0, 1, upTo(n-1)...)}, false)
		wantSame(t, []api.Doubt{doubt(5, 0, 1, upTo(n)...)}, []api.Doubt{doubt(5, 0, 1, upTo(n)[1:]...)}, false)
		wantSame(t, []api.Doubt{doubt(5, 0, 1, upTo(n)...)}, []api.Doubt{doubt(5, 0, 1)}, false)
	}
	// What stands behind the end of a list does not count.
	l := each(3, 0, 1, 2)
	wantSame(t, l[:2], each(2, 0, 1, 2), true)
	by := []int{1, 2, 3}
	wantSame(t, []api.Doubt{doubt(5, 0, 1, by[:2]...)}, []api.Doubt{doubt(5, 0, 1, 1, 2)}, true)
}

// unlike are doubts that differ from one in one alone: Who, Inc, At, or By, at each place of it.
func unlike(x api.Doubt) []api.Doubt {
	var l []api.Doubt
	for _, d := range []int{1, -1, 64, 1 << 8, 1 << 31, 1 << 32, math.MinInt} {
		l = append(l, doubt(x.Who+d, x.Inc, x.At, x.By...))
		l = append(l, doubt(x.Who, x.Inc, x.At+int64(d), x.By...))
		for at := range x.By {
			l = append(l, doubt(x.Who, x.Inc, x.At, but(x.By, at, x.By[at]+d)...))
		}
	}
	for _, d := range []uint64{1, greatest, 1 << 8, 1 << 31, 1 << 32, 1 << 63} {
		l = append(l, doubt(x.Who, x.Inc+d, x.At, x.By...))
	}
	for at := range len(x.By) + 1 {
		l = append(l, doubt(x.Who, x.Inc, x.At, plus(x.By, at, 70)...))
	}
	for at := range x.By {
		l = append(l, doubt(x.Who, x.Inc, x.At, less(x.By, at)...))
	}
	return l
}

func TestSameOfDoubtsThatDifferInOneAlone(t *testing.T) {
	for _, n := range []int{1, 2, 3, 7, 63, 64} {
		l := each(n, 3, 2, 1, 5, 9)
		for at := range n {
			for _, x := range unlike(l[at]) {
				wantSame(t, l, but(l, at, x), false)
			}
		}
	}
	for _, x := range unlike(doubt(5, 3, 2, 1, 5, 9)) {
		wantSame(t, []api.Doubt{x}, clone([]api.Doubt{x}), true)
	}
	all := doubt(5, 3, 2, upTo(64)...)
	for _, x := range unlike(all) {
		wantSame(t, []api.Doubt{all}, []api.Doubt{x}, false)
	}
	two := []api.Doubt{doubt(1, 1, 1, 1), doubt(2, 1, 1, 1)}
	wantSame(t, two, []api.Doubt{two[1], two[0]}, false)
	wantSame(t, []api.Doubt{doubt(1, 2, 3, 4)}, []api.Doubt{doubt(1, 3, 2, 4)}, false)
	wantSame(t, []api.Doubt{doubt(1, 2, 3, 4, 5)}, []api.Doubt{doubt(1, 2, 3, 5, 4)}, false)
	wantSame(t, []api.Doubt{doubt(1, 2, 3, 4, 5), doubt(2, 2, 3, 6)}, []api.Doubt{doubt(1, 2, 3, 4), doubt(2, 2, 3, 5, 6)}, false)
}

func TestSameOfWhatMayNotBe(t *testing.T) {
	for _, l := range badDoubts() {
		wantSame(t, l, clone(l), true)
		wantSame(t, l, append(clone(l), doubt(0, 0, 0, 1)), false)
		wantSame(t, l, nil, false)
	}
	for _, l := range someBadDoubts() {
		for _, at := range []int{0, len(l) / 2, len(l) - 1} {
			for _, x := range unlike(l[at])[:3] {
				wantSame(t, l, but(l, at, x), false)
			}
		}
	}
}

// P9.2

func TestRaiseOfTheExample(t *testing.T) {
	l := raised(nil, 4, 1, 2, 10)
	wantSame(t, l, []api.Doubt{doubt(4, 1, 10, 2)}, true)
	wantRaise(t, l, 4, 1, 2, 10, l, api.OK)
	wantRaise(t, l, 4, 1, 2, 13, l, api.OK)
	// No confirmation: it is waited for as long as for none.
	twice := raised(l, 4, 1, 2, 13)
	wantRipe(t, twice, rules(2, 3, 4), 5, 27, nil, l, api.OK)
	wantRipe(t, twice, rules(2, 3, 4), 5, 28, l, nil, api.OK)
}

func TestRaiseToNone(t *testing.T) {
	for _, who := range edgeWhos {
		for _, inc := range edgeIncs {
			for _, now := range edgeTicks {
				for _, by := range edgeWhos {
					want := []api.Doubt{doubt(who, inc, now, by)}
					wantRaise(t, nil, who, inc, by, now, want, api.OK)
					wantRaise(t, []api.Doubt{}, who, inc, by, now, want, api.OK)
				}
			}
		}
	}
}

func TestRaiseAheadBetweenAndBehind(t *testing.T) {
	l := []api.Doubt{doubt(3, 1, 2, 0, 9), doubt(5, 9, last, 63), doubt(60, 0, 0, 4, 5, 6)}
	for _, inc := range edgeIncs {
		for _, now := range edgeTicks {
			for _, c := range [][2]int{{0, 0}, {2, 0}, {4, 1}, {6, 2}, {59, 2}, {61, 3}, {63, 3}} {
				wantRaise(t, l, c[0], inc, 7, now, plus(l, c[1], doubt(c[0], inc, now, 7)), api.OK)
			}
		}
	}
}

func TestRaiseAtEachPlace(t *testing.T) {
	all := each(64, 3, 2, 1, 5)
	for who := range 64 {
		for _, inc := range []uint64{0, 3, greatest} {
			x := doubt(who, inc, 7, 63)
			wantRaise(t, less(all, who), who, inc, 63, 7, but(all, who, x), api.OK)
			wantRaise(t, all[:who], who, inc, 63, 7, append(clone(all[:who]), x), api.OK)
			wantRaise(t, all[who+1:], who, inc, 63, 7, plus(all[who+1:], 0, x), api.OK)
		}
	}
}

func TestRaiseOfAWhoThatIsThereByAGreaterInc(t *testing.T) {
	for _, n := range []int{1, 2, 3, 7, 63, 64} {
		l := each(n, 3, 20, 1, 5)
		for who := range n {
			for _, inc := range []uint64{4, 5, 1 << 31, 1 << 32, 1<<32 + 3, 1 << 63, greatest - 1, greatest} {
				for _, by := range []int{0, 1, 3, 5, 63} {
					for _, now := range []int64{0, 20, 21, last} {
						// Whoever doubted a former one says nothing of this one.
						wantRaise(t, l, who, inc, by, now, but(l, who, doubt(who, inc, now, by)), api.OK)
					}
				}
			}
		}
	}
}

func TestRaiseOfAWhoThatIsThereByTheSameInc(t *testing.T) {
	for _, inc := range edgeIncs {
		for _, n := range []int{1, 3, 64} {
			l := each(n, inc, 20, 2, 5, 60)
			for who := range n {
				for _, now := range []int64{0, 19, 20, 21, last} {
					// Who is one of them already.
					for _, by := range []int{2, 5, 60} {
						wantRaise(t, l, who, inc, by, now, l, api.OK)
					}
					// Ahead of all, between, and behind all; since when stays.
					for _, c := range [][2]int{{0, 0}, {1, 0}, {3, 1}, {4, 1}, {6, 2}, {59, 2}, {61, 3}, {63, 3}} {
						wantRaise(t, l, who, inc, c[0], now, but(l, who, doubt(who, inc, 20, plus([]int{2, 5, 60}, c[1], c[0])...)), api.OK)
					}
				}
			}
		}
	}
}

func TestRaiseByEachOne(t *testing.T) {
	all := upTo(64)
	for by := range 64 {
		of := func(l []int) []api.Doubt {
			return []api.Doubt{doubt(3, 1, 1, 9), doubt(4, 7, 20, l...), doubt(9, 1, 1, 9)}
		}
		wantRaise(t, of(all), 4, 7, by, 30, of(all), api.OK)
		wantRaise(t, of(less(all, by)), 4, 7, by, 30, of(all), api.OK)
		if by > 0 {
			wantRaise(t, of(all[:by]), 4, 7, by, 30, of(all[:by+1]), api.OK)
		}
		if by < 63 {
			wantRaise(t, of(all[by+1:]), 4, 7, by, 30, of(all[by:]), api.OK)
		}
		wantRaise(t, of([]int{by}), 4, 7, by, 30, of([]int{by}), api.OK)
	}
}

func TestRaiseOfAWhoThatIsThereByALessInc(t *testing.T) {
	for _, n := range []int{1, 2, 3, 7, 63, 64} {
		l := each(n, 1<<32+3, 20, 1, 5)
		for who := range n {
			for _, inc := range []uint64{0, 1, 3, 4, 1 << 31, 1 << 32, 1<<32 + 2} {
				for _, by := range []int{0, 1, 3, 5, 63} {
					for _, now := range []int64{0, 20, 21, last} {
						wantRaise(t, l, who, inc, by, now, l, api.OK)
					}
				}
			}
		}
	}
}

func TestRaiseOfEachTwoIncs(t *testing.T) {
	for i, was := range edgeIncs {
		for j, inc := range edgeIncs {
			l := []api.Doubt{doubt(0, greatest, 1, 1), doubt(9, was, 5, 8), doubt(63, 0, 64, 2)}
			want := l
			switch {
			case j > i:
				want = but(l, 1, doubt(9, inc, 8, 3))
			case j == i:
				want = but(l, 1, doubt(9, was, 5, 3, 8))
			}
			wantRaise(t, l, 9, inc, 3, 8, want, api.OK)
		}
	}
}

func TestRaiseByTheNodeItself(t *testing.T) {
	wantRaise(t, nil, 9, 1, 9, 4, []api.Doubt{doubt(9, 1, 4, 9)}, api.OK)
	wantRaise(t, []api.Doubt{doubt(9, 1, 4, 3)}, 9, 1, 9, 5, []api.Doubt{doubt(9, 1, 4, 3, 9)}, api.OK)
}

// someDoubts are doubts that may be: none, one, some, and as many as there may be.
func someDoubts() [][]api.Doubt {
	return [][]api.Doubt{nil, {}, each(1, 0, 0, 0), each(7, 3, 9, 2, 5), each(64, greatest, last, upTo(64)...), each(64, 0, 1, 2)[1:63]}
}

func TestRaiseOfANodeThatIsNone(t *testing.T) {
	for _, l := range someDoubts() {
		for _, bad := range badNumbers {
			for _, inc := range []uint64{0, 3, greatest} {
				for _, now := range []int64{0, last, -1, last + 1} {
					for _, good := range edgeWhos {
						wantRaiseRefused(t, l, bad, inc, good, now)
						wantRaiseRefused(t, l, good, inc, bad, now)
					}
					wantRaiseRefused(t, l, bad, inc, bad, now)
				}
			}
		}
	}
}

func TestRaiseAtEachNow(t *testing.T) {
	l := []api.Doubt{doubt(4, 1, 2, 0, 9), doubt(9, 9, last, 63)}
	for _, now := range edgeTicks {
		wantRaise(t, nil, 9, 9, 5, now, []api.Doubt{doubt(9, 9, now, 5)}, api.OK)
		wantRaise(t, l, 5, 9, 5, now, plus(l, 1, doubt(5, 9, now, 5)), api.OK)
		wantRaise(t, l, 4, 2, 5, now, but(l, 0, doubt(4, 2, now, 5)), api.OK)
		wantRaise(t, l, 4, 1, 5, now, but(l, 0, doubt(4, 1, 2, 0, 5, 9)), api.OK)
		wantRaise(t, l, 4, 0, 5, now, l, api.OK)
	}
	for _, now := range badTicks {
		// Also where no doubt would be since then.
		for _, inc := range []uint64{0, 1, 2} {
			for _, by := range []int{0, 5, 9} {
				wantRaiseRefused(t, l, 4, inc, by, now)
				wantRaiseRefused(t, l, 5, inc, by, now)
				wantRaiseRefused(t, nil, 4, inc, by, now)
			}
		}
	}
}

func TestRaiseToDoubtsThatMayNotBe(t *testing.T) {
	for _, l := range badDoubts() {
		wantRaiseRefused(t, l, 5, 3, 6, 7)
		wantRaiseRefused(t, l, l[0].Who, greatest, 6, 7)
		wantRaiseRefused(t, l, l[len(l)-1].Who, 2, 6, 7)
	}
	for _, l := range someBadDoubts() {
		for _, who := range []int{0, 1, 2, 63, -1, 64} {
			for _, by := range []int{0, 63, -1, 64} {
				for _, now := range []int64{0, last, -1, last + 1} {
					wantRaiseRefused(t, l, who, 2, by, now)
				}
			}
		}
	}
}

func TestRaiseToWhatIsDrawn(t *testing.T) {
	r := rand.New(rand.NewSource(seed))
	for range 5000 {
		below := 1 + r.Intn(64)
		l, who, inc, by, now := drawn(r, below), r.Intn(below), uint64(r.Intn(4)), r.Intn(8), int64(r.Intn(50))
		wantRaise(t, l, who, inc, by, now, slowRaise(l, who, inc, by, now), api.OK)
	}
}

// P9.3

func TestClearOfTheExample(t *testing.T) {
	l := []api.Doubt{doubt(4, 3, 10, 2)}
	wantClear(t, l, 4, 2, l, api.OK)
	wantClear(t, l, 4, 3, nil, api.OK)
}

func TestClearOfAWhoThatIsThere(t *testing.T) {
	for _, n := range []int{1, 2, 3, 7, 63, 64} {
		l := each(n, 1<<32+3, 20, 1, 5)
		for who := range n {
			for _, inc := range []uint64{0, 1, 3, 4, 1 << 31, 1 << 32, 1<<32 + 2} {
				wantClear(t, l, who, inc, l, api.OK)
			}
			for _, inc := range []uint64{1<<32 + 3, 1<<32 + 4, 1 << 33, 1 << 63, greatest - 1, greatest} {
				wantClear(t, l, who, inc, less(l, who), api.OK)
			}
		}
	}
	for i, was := range edgeIncs {
		for j, inc := range edgeIncs {
			l := []api.Doubt{doubt(0, 0, 1, 1), doubt(9, was, 5, 8), doubt(63, 0, 64, 2)}
			want := l
			if j >= i {
				want = less(l, 1)
			}
			wantClear(t, l, 9, inc, want, api.OK)
		}
	}
}

func TestClearOfAWhoThatIsNotThere(t *testing.T) {
	l := []api.Doubt{doubt(3, 0, 2, 0, 9), doubt(5, 0, last, 63), doubt(60, 0, 0, 4)}
	for _, inc := range edgeIncs {
		for _, who := range []int{0, 2, 4, 6, 9, 59, 61, 63} {
			wantClear(t, l, who, inc, l, api.OK)
			wantClear(t, nil, who, inc, nil, api.OK)
			wantClear(t, []api.Doubt{}, who, inc, nil, api.OK)
		}
	}
	all := each(64, 0, 2, 1)
	for who := range 64 {
		wantClear(t, less(all, who), who, greatest, less(all, who), api.OK)
	}
}

func TestClearOfANodeThatIsNone(t *testing.T) {
	// The chapter names no error: there is no doubt of it.
	for _, l := range someDoubts() {
		for _, who := range badNumbers {
			for _, inc := range edgeIncs {
				wantClear(t, l, who, inc, l, api.OK)
			}
		}
	}
}

func TestClearOfDoubtsThatMayNotBe(t *testing.T) {
	for _, l := range badDoubts() {
		wantClear(t, l, 5, greatest, l, api.ErrArg)
		// Also where it would clear what may not be.
		wantClear(t, l, l[0].Who, greatest, l, api.ErrArg)
		wantClear(t, l, l[len(l)-1].Who, greatest, l, api.ErrArg)
		wantClear(t, l, -1, 0, l, api.ErrArg)
	}
}

func TestClearOfWhatIsDrawn(t *testing.T) {
	r := rand.New(rand.NewSource(seed))
	for range 5000 {
		below := 1 + r.Intn(64)
		l, who, inc := drawn(r, below), r.Intn(below), uint64(r.Intn(5))
		wantClear(t, l, who, inc, slowClear(l, who, inc), api.OK)
	}
}

func TestRipeAtEachTick(t *testing.T) {
	// Among 5 by 2, 3, 4 these are waited for 18, 12, 6, and 6.
	r := rules(2, 3, 4)
	none, some := doubt(1, 7, 10, 3), doubt(4, 0, 12, 0, 2, 63)
	all, more := doubt(5, greatest, 20, 0, 1, 2, 3, 4), doubt(63, 1, 25, 9, 10, 11, 12, 13, 14, 15)
	l := []api.Doubt{none, some, all, more}
	for now := range int64(60) {
		var ripe, others []api.Doubt
		for i, due := range []int64{28, 24, 26, 31} {
			if now >= due {
				ripe = append(ripe, l[i])
			} else {
				others = append(others, l[i])
			}
		}
		wantRipe(t, l, r, 5, now, ripe, others, api.OK)
	}
	wantRipe(t, l, r, 5, 0, nil, l, api.OK)
	wantRipe(t, l, r, 5, 23, nil, l, api.OK)
	wantRipe(t, l, r, 5, 24, []api.Doubt{some}, []api.Doubt{none, all, more}, api.OK)
	wantRipe(t, l, r, 5, 26, []api.Doubt{some, all}, []api.Doubt{none, more}, api.OK)
	wantRipe(t, l, r, 5, 30, []api.Doubt{none, some, all}, []api.Doubt{more}, api.OK)
	wantRipe(t, l, r, 5, last, l, nil, api.OK)
}

func TestRipeWithEachNumberOfConfirmations(t *testing.T) {
	for _, x := range []struct {
		r    api.Rules
		n    int
		want []int64
	}{
		{rules(2, 3, 4), 5, []int64{18, 15, 12, 9, 6, 6}},
		{rules(7, 2, 3), 2, []int64{28, 24, 19, 14, 14}},
		{rules(5, 9, 0), 3, []int64{10, 10, 10}},
		{rules(5, 1, 4), 3, []int64{10, 10, 10, 10, 10, 10}},
		{rules(1, 20, 10), 1, []int64{20, 19, 17, 15, 13, 11, 9, 7, 5, 3, 1, 1, 1}},
		{rules(1000, 20, 10), 64, []int64{140000, 126700}},
	} {
		for c, wait := range x.want {
			for _, at := range []int64{0, 1, 1 << 32, last - wait} {
				l := []api.Doubt{doubt(9, 1, at, upTo(c+1)...)}
				wantRipe(t, l, x.r, x.n, at+wait, l, nil, api.OK)
				wantRipe(t, l, x.r, x.n, at+wait-1, nil, l, api.OK)
				wantRipe(t, l, x.r, x.n, min(at+wait+1, last), l, nil, api.OK)
			}
		}
		all := []api.Doubt{doubt(9, 1, 100, upTo(64)...)}
		wait := x.r.Min * len(strconv.FormatInt(int64(x.n), 2))
		wantRipe(t, all, rules(x.r.Min, x.r.Most, 1), x.n, int64(100+wait), all, nil, api.OK)
		wantRipe(t, all, rules(x.r.Min, x.r.Most, 1), x.n, int64(100+wait-1), nil, all, api.OK)
	}
}

func TestRipeNearTheLastTick(t *testing.T) {
	r := rules(2, 3, 4)
	l := []api.Doubt{doubt(0, 1, last-18, 1), doubt(1, 1, last-17, 1), doubt(2, 1, last, 1), doubt(3, 1, last, 0, 1, 2, 3, 4, 5)}
	wantRipe(t, l, r, 5, last, l[:1], l[1:], api.OK)
	wantRipe(t, l, r, 5, last-1, nil, l, api.OK)
	// Each grace takes a tick at the least.
	wantRipe(t, l[2:], rules(1, 1, 0), 1, last, nil, l[2:], api.OK)
}

func TestRipeOfNone(t *testing.T) {
	for _, now := range edgeTicks {
		wantRipe(t, nil, rules(2, 3, 4), 5, now, nil, nil, api.OK)
		wantRipe(t, []api.Doubt{}, rules(1, 1, 0), 64, now, nil, nil, api.OK)
	}
}

func TestRipeAmongEachCount(t *testing.T) {
	r := rules(2, 3, 4)
	l := []api.Doubt{doubt(0, 1, 0, 1), doubt(63, 9, 5, 1, 2, 3)}
	for n := -200; n <= 200; n++ {
		if n < 1 || n > 64 {
			wantRipe(t, l, r, n, 30, nil, nil, api.ErrArg)
			wantRipe(t, nil, r, n, 30, nil, nil, api.ErrArg)
			continue
		}
		for now := range int64(50) {
			wantRipeLikeSlow(t, l, r, n, now)
		}
	}
	// Of one node, and of 64: they are waited for 6 and 4, and 42 and 28.
	wantRipe(t, l, r, 1, 6, l[:1], l[1:], api.OK)
	wantRipe(t, l, r, 1, 9, l, nil, api.OK)
	wantRipe(t, l, r, 64, 32, nil, l, api.OK)
	wantRipe(t, l, r, 64, 33, l[1:], l[:1], api.OK)
	wantRipe(t, l, r, 64, 42, l, nil, api.OK)
}

func TestRipeOfWhatMayNotBe(t *testing.T) {
	r := rules(2, 3, 4)
	for _, l := range someDoubts() {
		for _, n := range badCounts {
			for _, now := range []int64{0, 30, last, -1} {
				wantRipe(t, l, r, n, now, nil, nil, api.ErrArg)
			}
		}
		for _, x := range append(badRules(), api.Rules{}) {
			for _, now := range []int64{0, 30, last, -1} {
				wantRipe(t, l, x, 5, now, nil, nil, api.ErrArg)
			}
			wantRipe(t, l, x, 0, 30, nil, nil, api.ErrArg)
		}
		for _, now := range badTicks {
			for _, n := range []int{1, 5, 64, 0, 65} {
				wantRipe(t, l, r, n, now, nil, nil, api.ErrArg)
				wantRipe(t, l, rules(1, 1, 0), n, now, nil, nil, api.ErrArg)
			}
		}
	}
}

func TestRipeOfDoubtsThatMayNotBe(t *testing.T) {
	for _, l := range badDoubts() {
		for _, now := range []int64{0, 30, last} {
			wantRipe(t, l, rules(2, 3, 4), 5, now, nil, nil, api.ErrArg)
		}
	}
	for _, l := range someBadDoubts() {
		wantRipe(t, l, rules(0, 3, 4), 5, 30, nil, nil, api.ErrArg)
		wantRipe(t, l, rules(2, 3, 4), 0, 30, nil, nil, api.ErrArg)
		wantRipe(t, l, rules(2, 3, 4), 5, -1, nil, nil, api.ErrArg)
	}
}

func TestRipeOfWhatIsDrawn(t *testing.T) {
	r := rand.New(rand.NewSource(seed))
	for range 5000 {
		wantRipeLikeSlow(t, drawn(r, 1+r.Intn(64)), drawnRules(r), 1+r.Intn(64), int64(r.Intn(100)))
	}
}

// P9.4

func TestWithMoreConfirmationsAGraceIsNoLonger(t *testing.T) {
	for _, min := range []int{1, 2, 7, 999, 1000} {
		for most := 1; most <= 20; most++ {
			for all := range 11 {
				r := rules(min, most, all)
				for _, n := range []int{1, 2, 3, 31, 64} {
					least := int64(min * len(strconv.FormatInt(int64(n), 2)))
					was := least * int64(most)
					for c := range 13 {
						g := graceOf(r, n, c)
						if g > was || g < least {
							t.Errorf("Grace(%v, %d, %d): %d; want %d to %d", r, n, c, g, least, was)
						}
						was = g
					}
				}
			}
		}
	}
}

func TestWithMoreNodesAGraceIsNoShorter(t *testing.T) {
	for _, min := range []int{1, 2, 3, 10, 1000} {
		for _, most := range []int{1, 2, 3, 19, 20} {
			for all := range 11 {
				for c := range 12 {
					var was int64
					for n := 1; n <= 64; n++ {
						g := graceOf(rules(min, most, all), n, c)
						if g < was {
							t.Errorf("Grace of %d, %d, %d among %d with %d: %d, but among one less %d", min, most, all, n, c, g, was)
						}
						was = g
					}
				}
			}
		}
	}
}

// raising is what was raised.
type raising struct {
	inc uint64
	by  int
	now int64
}

// doubtOf is the doubt of a node, by all that was raised of it since it was cleared.
func doubtOf(who int, l []raising) api.Doubt {
	var most uint64
	for _, x := range l {
		most = max(most, x.inc)
	}
	var at int64
	var by []int
	for _, x := range slices.Backward(l) {
		if x.inc == most {
			at, by = x.now, append(by, x.by)
		}
	}
	slices.Sort(by)
	return doubt(who, most, at, slices.Compact(by)...)
}

// doubtsOf are the doubts of all nodes below a number, by all that was raised.
func doubtsOf(below int, was map[int][]raising) []api.Doubt {
	var l []api.Doubt
	for who := range below {
		if len(was[who]) > 0 {
			l = append(l, doubtOf(who, was[who]))
		}
	}
	return l
}

func TestOfOneNodeThereIsOneDoubtOfTheGreatestInc(t *testing.T) {
	r := rand.New(rand.NewSource(seed))
	for range 300 {
		below := 1 + r.Intn(12)
		var l []api.Doubt
		was := map[int][]raising{}
		for now := range int64(80) {
			who, inc := r.Intn(below), uint64(r.Intn(4))
			if r.Intn(4) == 0 {
				l = cleared(l, who, inc)
				if len(was[who]) > 0 && doubtOf(who, was[who]).Inc <= inc {
					was[who] = nil
				}
			} else {
				x := raising{inc, r.Intn(10), now}
				l = raised(l, who, inc, x.by, now)
				was[who] = append(was[who], x)
			}
			wantCheck(t, l, api.OK)
			if want := doubtsOf(below, was); !equal(l, want) {
				t.Fatalf("doubts: %v; want %v", l, want)
			}
		}
	}
}

func TestRaisedAndClearedInWhateverOrder(t *testing.T) {
	// What is raised at one tick, in whatever order, and some of it again, comes to the same doubts.
	all := []struct {
		who int
		raising
	}{{4, raising{1, 2, 9}}, {4, raising{1, 0, 9}}, {4, raising{0, 5, 9}}, {0, raising{3, 63, 9}}, {63, raising{2, 1, 9}}, {63, raising{3, 7, 9}}}
	want := []api.Doubt{doubt(0, 3, 9, 63), doubt(4, 1, 9, 0, 2), doubt(63, 3, 9, 7)}
	orders(len(all), func(order []int) {
		var l []api.Doubt
		for _, i := range order {
			x := all[i]
			l = raised(l, x.who, x.inc, x.by, x.now)
			l = raised(l, x.who, x.inc, x.by, x.now+int64(i))
		}
		if !equal(l, want) {
			t.Fatalf("raised by %v: %v", order, l)
		}
	})
	orders(3, func(order []int) {
		l := want
		for _, i := range order {
			x := want[i]
			l = cleared(cleared(l, x.Who, x.Inc-1), x.Who, x.Inc)
			l = cleared(l, x.Who, x.Inc)
		}
		wantSame(t, l, nil, true)
	})
}

func TestWhatIsClearedIsDoubtedAnew(t *testing.T) {
	l := raised(raised(nil, 4, 5, 2, 10), 4, 5, 3, 11)
	l = cleared(l, 4, 5)
	wantSame(t, l, nil, true)
	// Behind it also a less incarnation is doubted, since then, by whom it is raised alone.
	l = raised(l, 4, 2, 7, 20)
	wantSame(t, l, []api.Doubt{doubt(4, 2, 20, 7)}, true)
	l = cleared(l, 4, 1)
	l = raised(l, 4, 2, 6, 21)
	wantSame(t, l, []api.Doubt{doubt(4, 2, 20, 6, 7)}, true)
}

func TestWhatIsRipeAndTheOthersAreAll(t *testing.T) {
	r := rand.New(rand.NewSource(seed))
	for range 1000 {
		l, x, n := drawn(r, 1+r.Intn(64)), drawnRules(r), 1+r.Intn(64)
		count := 0
		for now := int64(0); now < 200; now += 1 + int64(r.Intn(20)) {
			ripe, others, e := Ripe(l, x, n, now)
			mustNoError(e)
			wantCheck(t, ripe, api.OK)
			wantCheck(t, others, api.OK)
			both := append(clone(ripe), others...)
			slices.SortFunc(both, func(a, b api.Doubt) int { return a.Who - b.Who })
			wantSame(t, both, l, true)
			// What is ripe stays so.
			if len(ripe) < count {
				t.Errorf("at %d of %v are ripe %v, fewer than %d", now, l, ripe, count)
			}
			count = len(ripe)
		}
	}
}

func TestRaisedClearedAndRipeAgainAndAgain(t *testing.T) {
	r := rand.New(rand.NewSource(seed))
	for range 200 {
		var l, slow []api.Doubt
		x, n := drawnRules(r), 1+r.Intn(64)
		for now := range int64(100) {
			who, inc, by := r.Intn(10)*7, uint64(r.Intn(4)), r.Intn(64)
			switch r.Intn(5) {
			case 0:
				l, slow = cleared(l, who, inc), slowClear(slow, who, inc)
			case 1:
				ripe, others := slowRipe(slow, x, n, now)
				wantRipe(t, l, x, n, now, ripe, others, api.OK)
				_, l, _ = Ripe(l, x, n, now)
				slow = others
			default:
				l, slow = raised(l, who, inc, by, now), slowRaise(slow, who, inc, by, now)
			}
			if !equal(l, slow) {
				t.Fatalf("doubts: %v; want %v", l, slow)
			}
			wantCheck(t, l, api.OK)
		}
	}
}

// R3, R4

// room is doubts, and whom they are by, with room behind both that has something else, and may not be.
func room() []api.Doubt {
	of := func(who int, inc uint64, n int) api.Doubt {
		return api.Doubt{Who: who, Inc: inc, At: 9, By: []int{2, 4, 6, 70, 1, 71}[:n]}
	}
	return []api.Doubt{of(2, 3, 1), of(4, 1, 2), of(6, 2, 3), of(1, 8, 1), of(70, 8, 4), of(5, 8, 0)}
}

// whole is doubts with all that stands in the room behind them, and behind whom they are by.
func whole(l []api.Doubt) []api.Doubt {
	var all []api.Doubt
	for _, x := range l[:cap(l)] {
		x.By = x.By[:cap(x.By)]
		all = append(all, x)
	}
	return all
}

// spoil changes what was answered in each place, and in the room behind it.
func spoil(l []api.Doubt) {
	l = l[:cap(l)]
	for at := range l {
		by := l[at].By[:cap(l[at].By)]
		for i := range by {
			by[i] = 77
		}
		l[at] = doubt(78, 78, 78, 78)
	}
}

func TestDoubtsThatAreHandedInStayAsTheyWere(t *testing.T) {
	for n := range 7 {
		all := room()
		was := clone(whole(all))
		l := all[:n]
		stays := func(call string) {
			t.Helper()
			wantStays(t, call, whole(all), was)
		}
		for _, who := range []int{-1, 0, 2, 3, 4, 5, 6, 63, 64} {
			for inc := range uint64(5) {
				for _, by := range []int{-1, 0, 2, 3, 4, 5, 6, 7, 63, 64} {
					then, _ := Raise(l, who, inc, by, 30)
					stays("Raise")
					spoil(then)
					stays("what came of Raise")
				}
				then, _ := Clear(l, who, inc)
				stays("Clear")
				spoil(then)
				stays("what came of Clear")
			}
		}
		for _, now := range []int64{-1, 0, 14, 21, 24, 27, 30} {
			ripe, others, _ := Ripe(l, rules(2, 3, 4), 5, now)
			stays("Ripe")
			spoil(ripe)
			spoil(others)
			stays("what came of Ripe")
		}
		Check(l)
		Same(l, all)
		stays("Check, or Same,")
	}
}

func TestAnswersShareNothing(t *testing.T) {
	l := []api.Doubt{doubt(2, 3, 9, 2), doubt(4, 1, 9, 2, 4), doubt(6, 2, 9, 2, 4, 6)}
	for _, who := range []int{2, 4, 5, -1} {
		for inc := range uint64(5) {
			first, _ := Raise(l, who, inc, 3, 20)
			second, e := Raise(l, who, inc, 3, 20)
			spoil(first)
			wantRaise(t, l, who, inc, 3, 20, second, e)
			first, _ = Clear(l, who, inc)
			second, e = Clear(l, who, inc)
			spoil(first)
			wantClear(t, l, who, inc, second, e)
		}
	}
	for now := range int64(40) {
		first, rest, _ := Ripe(l, rules(2, 3, 4), 5, now)
		second, others, e := Ripe(l, rules(2, 3, 4), 5, now)
		spoil(first)
		wantRipe(t, l, rules(2, 3, 4), 5, now, second, rest, e)
		spoil(rest)
		wantRipe(t, l, rules(2, 3, 4), 5, now, second, others, e)
	}
}

func TestNoTwoListsOfAnAnswerShare(t *testing.T) {
	// All that is handed in is by one and the same list.
	by := []int{2, 4, 6}
	l := []api.Doubt{{Who: 2, Inc: 3, At: 0, By: by}, {Who: 4, Inc: 1, At: 5, By: by}, {Who: 6, Inc: 2, At: 9, By: by}, {Who: 8, Inc: 2, At: 1, By: by}}
	apart := func(call string, l ...api.Doubt) {
		t.Helper()
		was := clone(l)
		for at, x := range l {
			for i := range x.By {
				x.By[i] = 77
			}
			_ = append(x.By, 78)
			for other := at + 1; other < len(l); other++ {
				if !equalDoubts(l[other], was[other]) {
					t.Errorf("%s: %v and %v have something in common", call, x, l[other])
				}
			}
		}
	}
	for _, c := range []struct{ who, by int }{{2, 4}, {4, 5}, {5, 4}, {-1, 4}} {
		then, _ := Raise(l, c.who, 3, c.by, 20)
		apart("Raise", then...)
		then, _ = Clear(l, c.who, 3)
		apart("Clear", then...)
	}
	for now := range int64(40) {
		ripe, others, _ := Ripe(l, rules(2, 3, 4), 5, now)
		apart("Ripe", append(slices.Clone(ripe), others...)...)
	}
	if !slices.Equal(by, []int{2, 4, 6}) {
		t.Errorf("what was handed in is %v", by)
	}
}

func TestWhatIsHandedInMayBeChangedBehindTheCall(t *testing.T) {
	l := []api.Doubt{doubt(2, 3, 9, 2), doubt(4, 1, 9, 2, 4)}
	was := clone(l)
	added := raised(l, 3, 0, 1, 20)
	confirmed := raised(l, 4, 1, 3, 20)
	asTheyWere := raised(l, 4, 0, 3, 20)
	again := raised(l, 4, 1, 4, 20)
	refused, _ := Raise(l, 4, 1, 4, -1)
	rest := cleared(l, 2, 3)
	none := cleared(l, 2, 2)
	ripe, others, e := Ripe(l, rules(2, 3, 4), 5, 24)
	mustNoError(e)
	bad := append(clone(l), doubt(4, 9, 9, 9))
	wasBad := clone(bad)
	notRaised, _ := Raise(bad, 5, 1, 4, 9)
	notCleared, _ := Clear(bad, 4, 9)
	spoil(l)
	spoil(bad)
	wantSame(t, added, plus(was, 1, doubt(3, 0, 20, 1)), true)
	wantSame(t, confirmed, but(was, 1, doubt(4, 1, 9, 2, 3, 4)), true)
	for _, x := range [][]api.Doubt{asTheyWere, again, refused, none} {
		wantSame(t, x, was, true)
	}
	for _, x := range [][]api.Doubt{notRaised, notCleared} {
		wantSame(t, x, wasBad, true)
	}
	wantSame(t, rest, was[1:], true)
	wantSame(t, ripe, was[1:], true)
	wantSame(t, others, was[:1], true)
}

func TestAnswersComeAgain(t *testing.T) {
	r := rand.New(rand.NewSource(seed))
	for range 1000 {
		l, o := drawn(r, 10), drawn(r, 10)
		if len(l) > 0 && r.Intn(4) == 0 {
			at := r.Intn(len(l))
			x := bad(l[at].Who)
			l[at] = x[r.Intn(len(x))]
		}
		x, n, c := rules(r.Intn(5), r.Intn(5), r.Intn(13)-1), r.Intn(66), r.Intn(8)-1
		who, inc, by, now := r.Intn(66)-1, uint64(r.Intn(4)), r.Intn(66)-1, int64(r.Intn(60)-1)
		wantMay(t, x, May(x))
		g, e := Grace(x, n, c)
		wantGrace(t, x, n, c, g, e)
		wantCheck(t, l, Check(l))
		wantSame(t, l, o, Same(l, o))
		then, e := Raise(l, who, inc, by, now)
		wantRaise(t, l, who, inc, by, now, then, e)
		then, e = Clear(l, who, inc)
		wantClear(t, l, who, inc, then, e)
		ripe, others, e := Ripe(l, x, n, now)
		wantRipe(t, l, x, n, now, ripe, others, e)
	}
}
