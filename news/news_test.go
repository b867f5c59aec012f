package news

import (
	"math"
	"math/rand"
	"slices"
	"strconv"
	"testing"

	"tattle/api"
)

// The tests' draws are from this seed, so that a failure comes again.
const seed = 1

// greatest is the greatest incarnation that there is.
const greatest = math.MaxUint64

func alive(inc uint64) api.Know   { return api.Know{Inc: inc, State: api.Alive} }
func suspect(inc uint64) api.Know { return api.Know{Inc: inc, State: api.Suspect} }
func dead(inc uint64) api.Know    { return api.Know{Inc: inc, State: api.Dead} }
func left(inc uint64) api.Know    { return api.Know{Inc: inc, State: api.Left} }

func of(who int, k api.Know) api.News { return api.News{Who: who, K: k} }

func told(who int, k api.Know, often int) api.Told { return api.Told{N: of(who, k), Left: often} }

// rising is what may be known, each of which beats all ahead of it: incarnations at the edges, and between.
func rising() []api.Know {
	var l []api.Know
	for _, inc := range []uint64{0, 1, 3, 1<<32 - 1, 1 << 32, 1<<63 - 1, 1 << 63, greatest - 1, greatest} {
		l = append(l, alive(inc), suspect(inc), dead(inc), left(inc))
	}
	return l
}

// badKnown is what may not be known, of incarnations at either end.
func badKnown() []api.Know {
	var l []api.Know
	for _, s := range []int{-1, 4, 5, 256, -256, 1 << 32, -1 << 32, math.MinInt, math.MaxInt} {
		l = append(l, api.Know{Inc: 0, State: s}, api.Know{Inc: greatest, State: s})
	}
	return l
}

// badWhos are no nodes.
var badWhos = []int{-1, 64, 65, -2, -63, -64, 127, 128, 256, 319, 1 << 31, -1 << 31, 1 << 32, 1<<32 + 5, -1 << 32, math.MinInt, math.MinInt + 1, math.MaxInt - 1, math.MaxInt}

// badOftens are how often nothing is told.
var badOftens = []int{0, 65, -1, 66, -2, -64, 128, 256, 257, 1 << 31, -1 << 31, 1 << 32, 1<<32 + 1, -1<<32 + 1, math.MinInt, math.MinInt + 1, math.MaxInt - 1, math.MaxInt}

// badCounts are how many nodes there never are.
var badCounts = []int{0, 65, -1, 66, -2, -64, 127, 128, 256, 257, 320, 1 << 31, -1 << 31, 1 << 32, 1<<32 + 1, 1<<32 + 64, -1<<32 + 1, math.MinInt, math.MinInt + 1, math.MaxInt - 1, math.MaxInt}

// badFactors are none that may be.
var badFactors = []int{0, 9, -1, 10, -2, -8, 16, 64, 256, 257, 1 << 31, -1 << 31, 1 << 32, 1<<32 + 1, -1<<32 + 1, math.MinInt, math.MinInt + 1, math.MaxInt - 1, math.MaxInt}

// edges are the numbers of nodes and of tellings at either end of what may be, and between.
var (
	edgeWhos   = []int{0, 1, 5, 31, 32, 62, 63}
	edgeOftens = []int{1, 2, 7, 32, 63, 64}
)

// each is a queue of something to be told of each of n nodes, as often.
func each(n int, k api.Know, often int) []api.Told {
	var q []api.Told
	for who := range n {
		q = append(q, told(who, k, often))
	}
	return q
}

// but is a queue with something else at a place.
func but(q []api.Told, at int, x api.Told) []api.Told {
	then := slices.Clone(q)
	then[at] = x
	return then
}

// with is a queue with one more at a place.
func with(q []api.Told, at int, x api.Told) []api.Told {
	return slices.Insert(slices.Clone(q), at, x)
}

// without is a queue with one less.
func without(q []api.Told, at int) []api.Told {
	return slices.Delete(slices.Clone(q), at, at+1)
}

// drawn is a queue of up to so many, of few incarnations, and to be told so often at the most, so that some of it comes twice.
func drawn(r *rand.Rand, upTo, often int) []api.Told {
	whos := r.Perm(64)[:r.Intn(upTo+1)]
	slices.Sort(whos)
	var q []api.Told
	for _, who := range whos {
		q = append(q, told(who, api.Know{Inc: uint64(r.Intn(4)), State: r.Intn(4)}, 1+r.Intn(often)))
	}
	return q
}

// few is a queue of up to five, or now and then of more, mostly told a few times.
func few(r *rand.Rand) []api.Told {
	if r.Intn(8) == 0 {
		return drawn(r, 64, 64)
	}
	return drawn(r, 5, 3)
}

// bad is each thing that may not be told, of a node at who.
func bad(who int) []api.Told {
	var l []api.Told
	for _, x := range badWhos {
		l = append(l, told(x, alive(1), 3))
	}
	for _, k := range badKnown() {
		l = append(l, told(who, k, 3))
	}
	for _, often := range badOftens {
		l = append(l, told(who, alive(1), often))
	}
	return l
}

// unordered are queues whose Who comes twice, or falls, at each place.
func unordered() [][]api.Told {
	var queues [][]api.Told
	for _, n := range []int{2, 3, 7, 63, 64} {
		q := each(n, suspect(2), 3)
		slices.Reverse(q)
		queues = append(queues, q)
		for at := range n - 1 {
			queues = append(queues,
				but(each(n, suspect(2), 3), at, told(at+1, suspect(2), 3)),
				but(each(n, suspect(2), 3), at, told(at+1, dead(9), 1)),
				but(each(n, suspect(2), 3), at+1, told(at, suspect(2), 3)),
				but(each(n, suspect(2), 3), at+1, told(at, alive(0), 64)),
				but(each(n, suspect(2), 3), at, told(63, suspect(2), 3)),
				but(each(n, suspect(2), 3), at+1, told(0, suspect(2), 3)))
			swapped := each(n, suspect(2), 3)
			swapped[at], swapped[at+1] = swapped[at+1], swapped[at]
			queues = append(queues, swapped)
		}
	}
	// Of the first and the last node there are, and of two that do not stand beside one another.
	return append(queues,
		[]api.Told{told(63, alive(0), 1), told(63, alive(0), 1)},
		[]api.Told{told(63, alive(0), 1), told(0, alive(0), 1)},
		[]api.Told{told(0, alive(0), 1), told(0, alive(0), 1)},
		[]api.Told{told(4, alive(0), 1), told(9, alive(0), 1), told(4, alive(0), 1)})
}

// badQueues are queues that may not be: of too many, out of order, and with one at each place that may not be told.
func badQueues() [][]api.Told {
	queues := unordered()
	for _, n := range []int{65, 66, 128, 1000} {
		queues = append(queues, each(n, alive(0), 1), slices.Repeat([]api.Told{told(5, alive(0), 1)}, n))
	}
	for at := range 65 {
		queues = append(queues, with(each(64, dead(1), 2), at, told(at, dead(1), 2)))
	}
	for _, n := range []int{1, 2, 3} {
		for at := range n {
			for _, x := range bad(at) {
				queues = append(queues, but(each(n, suspect(2), 3), at, x))
			}
		}
	}
	for at := range 64 {
		l := bad(at)
		queues = append(queues, but(each(64, alive(1), 1), at, l[at%len(l)]))
		queues = append(queues, but(each(64, alive(1), 1), at, told(at, alive(1), badOftens[at%len(badOftens)])))
		queues = append(queues, but(each(64, alive(1), 1), at, told(at, badKnown()[at%len(badKnown())], 1)))
	}
	return queues
}

func slowBeats(a, b api.Know) bool {
	if a.Inc > b.Inc {
		return true
	}
	return a.Inc == b.Inc && a.State > b.State
}

// slowAdd builds the queue anew, node by node.
func slowAdd(q []api.Told, n api.News, often int) []api.Told {
	var then []api.Told
	for who := range 64 {
		at := slices.IndexFunc(q, func(x api.Told) bool { return x.N.Who == who })
		if who == n.Who && (at < 0 || slowBeats(n.K, q[at].N.K)) {
			then = append(then, api.Told{N: n, Left: often})
		} else if at >= 0 {
			then = append(then, q[at])
		}
	}
	return then
}

// slowTake looks through the whole queue for each one that is told next.
func slowTake(q []api.Told, k int) ([]api.News, []api.Told) {
	then := slices.Clone(q)
	was := map[int]bool{}
	var next []api.News
	for len(next) < k && len(next) < len(q) {
		best := -1
		for at, x := range then {
			if !was[at] && (best < 0 || x.Left > then[best].Left) {
				best = at
			}
		}
		was[best] = true
		next = append(next, then[best].N)
		then[best].Left--
	}
	var rest []api.Told
	for _, x := range then {
		if x.Left > 0 {
			rest = append(rest, x)
		}
	}
	return next, rest
}

// orders calls f with each order of the numbers below n.
func orders(n int, f func(l []int)) {
	var l []int
	for i := range n {
		l = append(l, i)
	}
	var place func(at int)
	place = func(at int) {
		if at == n {
			f(l)
			return
		}
		for i := at; i < n; i++ {
			l[at], l[i] = l[i], l[at]
			place(at + 1)
			l[at], l[i] = l[i], l[at]
		}
	}
	place(0)
}

// wantStays fails if a queue that was handed in is not as it was.
func wantStays(t *testing.T, call string, q, was []api.Told) {
	t.Helper()
	if !slices.Equal(q, was) {
		t.Errorf("%s changed %v to %v", call, was, q)
	}
}

func wantCheck(t *testing.T, q []api.Told, want api.Errno) {
	t.Helper()
	was := slices.Clone(q)
	if e := Check(q); e != want {
		t.Errorf("Check(%v): %d; want %d", q, e, want)
	}
	wantStays(t, "Check", q, was)
}

func wantSame(t *testing.T, a, b []api.Told, want bool) {
	t.Helper()
	wasA, wasB := slices.Clone(a), slices.Clone(b)
	if x := Same(a, b); x != want {
		t.Errorf("Same(%v, %v): %v", a, b, x)
	}
	if x := Same(b, a); x != want {
		t.Errorf("Same(%v, %v): %v", b, a, x)
	}
	wantStays(t, "Same", a, wasA)
	wantStays(t, "Same", b, wasB)
}

func wantBudget(t *testing.T, n, factor, want int, wantE api.Errno) {
	t.Helper()
	if x, e := Budget(n, factor); x != want || e != wantE {
		t.Errorf("Budget(%d, %d): %d, %d; want %d, %d", n, factor, x, e, want, wantE)
	}
}

func wantAdd(t *testing.T, q []api.Told, n api.News, often int, want []api.Told, wantE api.Errno) {
	t.Helper()
	was := slices.Clone(q)
	if x, e := Add(q, n, often); !slices.Equal(x, want) || e != wantE {
		t.Errorf("Add(%v, %v, %d): %v, %d; want %v, %d", q, n, often, x, e, want, wantE)
	}
	wantStays(t, "Add", q, was)
}

// wantAddRefused fails if Add does not refuse it, and answers the queue as it was.
func wantAddRefused(t *testing.T, q []api.Told, n api.News, often int) {
	t.Helper()
	wantAdd(t, q, n, often, slices.Clone(q), api.ErrArg)
}

func wantTake(t *testing.T, q []api.Told, k int, next []api.News, rest []api.Told, wantE api.Errno) {
	t.Helper()
	was := slices.Clone(q)
	if l, then, e := Take(q, k); !slices.Equal(l, next) || !slices.Equal(then, rest) || e != wantE {
		t.Errorf("Take(%v, %d): %v, %v, %d; want %v, %v, %d", q, k, l, then, e, next, rest, wantE)
	}
	wantStays(t, "Take", q, was)
}

// wantTakeLikeSlow fails if Take does not answer what the slow one does.
func wantTakeLikeSlow(t *testing.T, q []api.Told, k int) {
	t.Helper()
	next, rest := slowTake(q, k)
	wantTake(t, q, k, next, rest, api.OK)
}

// mustNoError panics where a call of a test's own making failed.
func mustNoError(e api.Errno) {
	if e != api.OK {
		panic("error " + strconv.Itoa(int(e)))
	}
}

func added(q []api.Told, n api.News, often int) []api.Told {
	then, e := Add(q, n, often)
	mustNoError(e)
	return then
}

func taken(q []api.Told, k int) ([]api.News, []api.Told) {
	next, then, e := Take(q, k)
	mustNoError(e)
	return next, then
}

// P7.1

func TestCheckOfWhatMayBe(t *testing.T) {
	wantCheck(t, nil, api.OK)
	wantCheck(t, []api.Told{}, api.OK)
	wantCheck(t, each(3, alive(1), 1)[:0], api.OK)
	for _, who := range edgeWhos {
		for _, k := range rising() {
			for _, often := range edgeOftens {
				wantCheck(t, []api.Told{told(who, k, often)}, api.OK)
			}
		}
	}
	for n := range 65 {
		wantCheck(t, each(n, dead(7), 1), api.OK)
		wantCheck(t, each(n, left(greatest), 64), api.OK)
		wantCheck(t, each(64, suspect(0), 5)[n:], api.OK)
	}
	for at := range 64 {
		wantCheck(t, without(each(64, suspect(0), 5), at), api.OK)
	}
	wantCheck(t, []api.Told{told(0, left(9), 1), told(7, alive(0), 64), told(8, dead(greatest), 2), told(63, suspect(1), 1)}, api.OK)
}

func TestCheckOfEachWhoAndOften(t *testing.T) {
	for n := -200; n <= 200; n++ {
		wantWho, wantOften := api.ErrArg, api.ErrArg
		if n >= 0 && n <= 63 {
			wantWho = api.OK
		}
		if n >= 1 && n <= 64 {
			wantOften = api.OK
		}
		wantCheck(t, []api.Told{told(n, alive(1), 3)}, wantWho)
		wantCheck(t, []api.Told{told(5, alive(1), n)}, wantOften)
		wantCheck(t, []api.Told{told(4, alive(1), 1), told(5, alive(1), n), told(6, alive(1), 64)}, wantOften)
	}
}

func TestCheckOfEachState(t *testing.T) {
	for s := -10; s <= 10; s++ {
		want := api.ErrArg
		if s == 0 || s == 1 || s == 2 || s == 3 {
			want = api.OK
		}
		for _, inc := range []uint64{0, 1, greatest} {
			k := api.Know{Inc: inc, State: s}
			wantCheck(t, []api.Told{told(5, k, 1)}, want)
			wantCheck(t, []api.Told{told(4, left(1), 1), told(5, k, 1), told(6, alive(1), 1)}, want)
		}
	}
}

func TestCheckOfTooMany(t *testing.T) {
	wantCheck(t, each(64, alive(0), 1), api.OK)
	wantCheck(t, each(65, alive(0), 1), api.ErrArg)
	for _, n := range []int{66, 100, 128, 256, 257, 320, 1000} {
		wantCheck(t, each(n, alive(0), 1), api.ErrArg)
		wantCheck(t, slices.Repeat([]api.Told{told(63, alive(0), 1)}, n), api.ErrArg)
		wantCheck(t, append(each(64, alive(0), 1), each(n-64, alive(0), 1)...), api.ErrArg)
	}
}

func TestCheckOfWhatIsOutOfOrder(t *testing.T) {
	for _, q := range unordered() {
		wantCheck(t, q, api.ErrArg)
	}
	// Of three in each order one alone rises.
	three := []api.Told{told(2, alive(0), 3), told(5, alive(0), 3), told(63, alive(0), 3)}
	orders(3, func(l []int) {
		want := api.ErrArg
		if slices.IsSorted(l) {
			want = api.OK
		}
		wantCheck(t, []api.Told{three[l[0]], three[l[1]], three[l[2]]}, want)
	})
}

func TestCheckOfOneThatMayNotBeAtEachPlace(t *testing.T) {
	for _, q := range badQueues() {
		wantCheck(t, q, api.ErrArg)
	}
	for _, n := range []int{1, 2, 3, 7, 63, 64} {
		for at := range n {
			for _, x := range bad(at) {
				wantCheck(t, but(each(n, suspect(2), 3), at, x), api.ErrArg)
			}
		}
	}
}

func TestSameOfTheSame(t *testing.T) {
	wantSame(t, nil, nil, true)
	wantSame(t, nil, []api.Told{}, true)
	wantSame(t, []api.Told{}, each(3, alive(1), 1)[:0], true)
	for n := range 65 {
		wantSame(t, each(n, suspect(3), 2), each(n, suspect(3), 2), true)
	}
	q := each(7, left(greatest), 64)
	wantSame(t, q, q, true)
	for _, k := range rising() {
		wantSame(t, []api.Told{told(5, k, 9)}, []api.Told{told(5, k, 9)}, true)
	}
}

func TestSameOfDifferentLength(t *testing.T) {
	for n := 1; n <= 64; n++ {
		q := each(n, alive(0), 1)
		wantSame(t, q, nil, false)
		wantSame(t, q, []api.Told{}, false)
		wantSame(t, q, q[:n-1], false)
		wantSame(t, q, q[1:], false)
		wantSame(t, q, each(n+1, alive(0), 1), false)
		wantSame(t, q, append(slices.Clone(q), api.Told{}), false)
	}
}

// unlike are things to be told that differ from one in one alone: Who, Inc, State, or Left.
func unlike(x api.Told) []api.Told {
	var l []api.Told
	for _, d := range []int{1, -1, 64, 1 << 8, 1 << 31, 1 << 32, math.MinInt} {
		l = append(l, told(x.N.Who+d, x.N.K, x.Left))
		l = append(l, told(x.N.Who, x.N.K, x.Left+d))
		l = append(l, told(x.N.Who, api.Know{Inc: x.N.K.Inc, State: x.N.K.State + d}, x.Left))
	}
	for _, d := range []uint64{1, greatest, 1 << 8, 1 << 31, 1 << 32, 1 << 63} {
		l = append(l, told(x.N.Who, api.Know{Inc: x.N.K.Inc + d, State: x.N.K.State}, x.Left))
	}
	return l
}

func TestSameOfQueuesThatDifferInOneAlone(t *testing.T) {
	for _, n := range []int{1, 2, 3, 7, 63, 64} {
		q := each(n, suspect(3), 2)
		for at := range n {
			for _, x := range unlike(q[at]) {
				wantSame(t, q, but(q, at, x), false)
				wantSame(t, but(q, at, x), but(q, at, x), true)
			}
		}
	}
	two := []api.Told{told(1, alive(1), 1), told(2, alive(1), 1)}
	wantSame(t, two, []api.Told{two[1], two[0]}, false)
	wantSame(t, []api.Told{told(1, alive(2), 3)}, []api.Told{told(1, alive(3), 2)}, false)
}

func TestSameOfWhatMayNotBe(t *testing.T) {
	for _, q := range badQueues() {
		wantSame(t, q, slices.Clone(q), true)
		wantSame(t, q, append(slices.Clone(q), told(0, alive(0), 1)), false)
		wantSame(t, q, nil, false)
		for _, at := range []int{0, len(q) / 2, len(q) - 1} {
			for _, x := range unlike(q[at])[:4] {
				wantSame(t, q, but(q, at, x), false)
			}
		}
	}
}

func TestBudgetOfTheExample(t *testing.T) {
	wantBudget(t, 5, 3, 9, api.OK)
}

func TestBudgetOfEachPowerOfTwoAndOfOneLess(t *testing.T) {
	for factor := 1; factor <= 8; factor++ {
		for _, c := range [][2]int{{1, 1}, {2, 2}, {3, 2}, {4, 3}, {7, 3}, {8, 4}, {15, 4}, {16, 5}, {31, 5}, {32, 6}, {63, 6}, {64, 7}} {
			wantBudget(t, c[0], factor, factor*c[1], api.OK)
		}
	}
}

func TestBudgetOfAll(t *testing.T) {
	for n := 1; n <= 64; n++ {
		bits := len(strconv.FormatInt(int64(n), 2))
		for factor := 1; factor <= 8; factor++ {
			wantBudget(t, n, factor, factor*bits, api.OK)
			// What is told by it may be.
			wantCheck(t, []api.Told{told(0, alive(0), factor*bits)}, api.OK)
		}
	}
}

func TestBudgetOfWhatMayNotBe(t *testing.T) {
	for _, n := range badCounts {
		for factor := 1; factor <= 8; factor++ {
			wantBudget(t, n, factor, 0, api.ErrArg)
		}
		for _, factor := range badFactors {
			wantBudget(t, n, factor, 0, api.ErrArg)
		}
	}
	for _, factor := range badFactors {
		for n := 1; n <= 64; n++ {
			wantBudget(t, n, factor, 0, api.ErrArg)
		}
	}
}

// P7.2

func TestAddOfTheExample(t *testing.T) {
	q := added(nil, of(4, suspect(1)), 3)
	wantSame(t, q, []api.Told{told(4, suspect(1), 3)}, true)
	wantAdd(t, q, of(4, alive(1)), 3, q, api.OK)
	wantAdd(t, q, of(4, alive(1)), 64, q, api.OK)
}

func TestAddToNone(t *testing.T) {
	for _, who := range edgeWhos {
		for _, k := range rising() {
			for _, often := range edgeOftens {
				want := []api.Told{told(who, k, often)}
				wantAdd(t, nil, of(who, k), often, want, api.OK)
				wantAdd(t, []api.Told{}, of(who, k), often, want, api.OK)
			}
		}
	}
}

func TestAddAheadBetweenAndBehind(t *testing.T) {
	q := []api.Told{told(3, dead(1), 2), told(5, alive(9), 64), told(60, left(0), 1)}
	for _, k := range rising() {
		for _, often := range edgeOftens {
			for _, c := range [][2]int{{0, 0}, {2, 0}, {4, 1}, {6, 2}, {59, 2}, {61, 3}, {63, 3}} {
				wantAdd(t, q, of(c[0], k), often, with(q, c[1], told(c[0], k, often)), api.OK)
			}
		}
	}
}

func TestAddAtEachPlace(t *testing.T) {
	all := each(64, suspect(3), 2)
	for who := range 64 {
		for _, k := range []api.Know{alive(0), suspect(3), left(greatest)} {
			wantAdd(t, without(all, who), of(who, k), 7, but(all, who, told(who, k, 7)), api.OK)
			wantAdd(t, all[:who], of(who, k), 7, append(slices.Clone(all[:who]), told(who, k, 7)), api.OK)
			wantAdd(t, all[who+1:], of(who, k), 7, with(all[who+1:], 0, told(who, k, 7)), api.OK)
		}
	}
}

func TestAddOfAWhoThatIsThere(t *testing.T) {
	for _, n := range []int{1, 2, 3, 7, 63, 64} {
		q := each(n, suspect(3), 2)
		for who := range n {
			for _, often := range []int{1, 2, 3, 64} {
				for _, k := range []api.Know{dead(3), left(3), alive(4), suspect(4), alive(greatest), left(greatest), alive(1 << 32), alive(1 << 63)} {
					wantAdd(t, q, of(who, k), often, but(q, who, told(who, k, often)), api.OK)
				}
				for _, k := range []api.Know{suspect(3), alive(3), left(2), suspect(2), alive(0), left(0)} {
					wantAdd(t, q, of(who, k), often, q, api.OK)
				}
			}
		}
	}
}

func TestAddOfEachTwo(t *testing.T) {
	known := rising()
	for i, was := range known {
		for j, k := range known {
			q := []api.Told{told(0, left(greatest), 1), told(9, was, 5), told(63, alive(0), 64)}
			want := q
			if j > i {
				want = but(q, 1, told(9, k, 8))
			}
			wantAdd(t, q, of(9, k), 8, want, api.OK)
		}
	}
}

func TestAddOfANodeThatIsNone(t *testing.T) {
	for _, q := range [][]api.Told{nil, {}, each(1, alive(0), 1), each(7, suspect(3), 2), each(64, left(greatest), 64), each(64, alive(0), 1)[1:63]} {
		for _, who := range badWhos {
			for _, k := range []api.Know{alive(0), left(greatest), badKnown()[0]} {
				for _, often := range []int{0, 1, 64, 65} {
					wantAddRefused(t, q, of(who, k), often)
				}
			}
		}
	}
}

func TestAddOfWhatMayNotBeKnown(t *testing.T) {
	for _, q := range [][]api.Told{nil, each(1, alive(0), 1), each(7, suspect(3), 2), each(64, left(greatest), 64), each(64, alive(0), 1)[1:63]} {
		for _, k := range badKnown() {
			for _, who := range append(edgeWhos, badWhos...) {
				for _, often := range []int{0, 1, 64, 65} {
					wantAddRefused(t, q, of(who, k), often)
				}
			}
		}
	}
}

func TestAddToBeToldSoOften(t *testing.T) {
	q := []api.Told{told(0, alive(0), 1), told(5, suspect(3), 2), told(63, left(greatest), 64)}
	for often := -200; often <= 200; often++ {
		if often < 1 || often > 64 {
			wantAddRefused(t, nil, of(5, dead(3)), often)
			wantAddRefused(t, q, of(5, dead(3)), often)
			wantAddRefused(t, q, of(4, dead(3)), often)
			continue
		}
		wantAdd(t, nil, of(5, dead(3)), often, []api.Told{told(5, dead(3), often)}, api.OK)
		wantAdd(t, q, of(5, dead(3)), often, but(q, 1, told(5, dead(3), often)), api.OK)
		wantAdd(t, q, of(4, dead(3)), often, with(q, 1, told(4, dead(3), often)), api.OK)
	}
	for _, often := range badOftens {
		// Also where what is there is not beaten.
		for _, k := range []api.Know{dead(3), suspect(3), alive(3)} {
			wantAddRefused(t, q, of(5, k), often)
			wantAddRefused(t, q, of(1, k), often)
			wantAddRefused(t, nil, of(1, k), often)
		}
	}
}

func TestAddToAQueueThatMayNotBe(t *testing.T) {
	for _, q := range badQueues() {
		for _, n := range []api.News{of(0, left(greatest)), of(1, alive(0)), of(5, dead(4)), of(63, suspect(1)), of(-1, alive(0)), of(64, alive(0)), of(2, badKnown()[0])} {
			for _, often := range []int{1, 64, 0, 65} {
				wantAddRefused(t, q, n, often)
			}
		}
		// Also where it would stand for what may not be.
		for _, x := range q[:min(len(q), 3)] {
			wantAddRefused(t, q, of(x.N.Who, left(greatest)), 1)
		}
	}
}

func TestAddToWhatIsDrawn(t *testing.T) {
	r := rand.New(rand.NewSource(seed))
	for range 5000 {
		q := few(r)
		n, often := of(r.Intn(64), api.Know{Inc: uint64(r.Intn(4)), State: r.Intn(4)}), 1+r.Intn(64)
		if len(q) > 0 && r.Intn(2) == 0 {
			n.Who = q[r.Intn(len(q))].N.Who
		}
		wantAdd(t, q, n, often, slowAdd(q, n, often), api.OK)
	}
}

// P7.3

func TestTakeOfTheExample(t *testing.T) {
	q := []api.Told{told(1, alive(1), 2), told(4, dead(0), 3)}
	wantTake(t, q, 1, []api.News{of(4, dead(0))}, []api.Told{told(1, alive(1), 2), told(4, dead(0), 2)}, api.OK)
}

func TestTakeOfSoMany(t *testing.T) {
	a, b, c, d := of(2, left(1)), of(5, alive(greatest)), of(9, dead(0)), of(63, suspect(7))
	q := []api.Told{{N: a, Left: 2}, {N: b, Left: 1}, {N: c, Left: 64}, {N: d, Left: 2}}
	all := []api.Told{{N: a, Left: 1}, {N: c, Left: 63}, {N: d, Left: 1}}
	wantTake(t, q, 0, nil, q, api.OK)
	wantTake(t, q, 1, []api.News{c}, but(q, 2, api.Told{N: c, Left: 63}), api.OK)
	wantTake(t, q, 2, []api.News{c, a}, []api.Told{{N: a, Left: 1}, {N: b, Left: 1}, {N: c, Left: 63}, {N: d, Left: 2}}, api.OK)
	wantTake(t, q, 3, []api.News{c, a, d}, []api.Told{{N: a, Left: 1}, {N: b, Left: 1}, {N: c, Left: 63}, {N: d, Left: 1}}, api.OK)
	wantTake(t, q, 4, []api.News{c, a, d, b}, all, api.OK)
	for _, k := range []int{5, 6, 64, 65, 1 << 31, 1 << 32, 1<<32 + 1, math.MaxInt - 1, math.MaxInt} {
		wantTake(t, q, k, []api.News{c, a, d, b}, all, api.OK)
	}
}

func TestTakeOfFewerThanNone(t *testing.T) {
	for _, q := range [][]api.Told{nil, {}, each(1, alive(0), 1), each(3, suspect(2), 5), each(64, left(greatest), 64)} {
		for _, k := range []int{-1, -2, -64, -1 << 31, -1 << 32, -1<<32 + 1, math.MinInt, math.MinInt + 1} {
			wantTake(t, q, k, nil, nil, api.ErrArg)
		}
	}
}

func TestTakeOfNone(t *testing.T) {
	for _, k := range []int{0, 1, 2, 64, 65, math.MaxInt} {
		wantTake(t, nil, k, nil, nil, api.OK)
		wantTake(t, []api.Told{}, k, nil, nil, api.OK)
	}
}

func TestTakeOfTheSameLeft(t *testing.T) {
	for _, n := range []int{1, 2, 3, 7, 13, 63, 64} {
		for _, often := range []int{1, 2, 64} {
			q := each(n, dead(3), often)
			var next []api.News
			for _, x := range q {
				next = append(next, x.N)
			}
			for k := range n + 2 {
				most := min(k, n)
				rest := append(each(n, dead(3), often-1)[:most:most], q[most:]...)
				if often == 1 {
					rest = q[most:]
				}
				wantTake(t, q, k, next[:most], rest, api.OK)
			}
		}
	}
}

func TestTakeWhereOneHasALeftOfOne(t *testing.T) {
	for _, n := range []int{1, 2, 3, 7, 64} {
		for who := range n {
			last := told(who, dead(9), 1)
			q := but(each(n, suspect(3), 2), who, last)
			// All others are told ahead of it.
			next, rest := taken(q, n-1)
			if len(next) != n-1 || slices.Contains(next, last.N) || !slices.Contains(rest, last) {
				t.Errorf("Take(%v, %d): %v, %v", q, n-1, next, rest)
			}
			wantTake(t, q, n, append(slices.Clone(next), last.N), without(each(n, suspect(3), 1), who), api.OK)
		}
	}
}

func TestTakeWhereOneHasTheGreatestLeft(t *testing.T) {
	for _, n := range []int{1, 2, 3, 7, 64} {
		for who := range n {
			for _, often := range []int{3, 4, 64} {
				first := told(who, alive(0), often)
				q := but(each(n, left(3), 2), who, first)
				wantTake(t, q, 1, []api.News{first.N}, but(q, who, told(who, alive(0), often-1)), api.OK)
				wantTakeLikeSlow(t, q, 2)
				wantTakeLikeSlow(t, q, n)
			}
		}
	}
}

func TestTakeGoesByLeftAndWhoAlone(t *testing.T) {
	// Of the same Left what is known counts nothing, only who.
	known := rising()
	for i, a := range known {
		for j, b := range known {
			q := []api.Told{told(3, a, 4), told(7, b, 4), told(8, known[(i+j)%len(known)], 5)}
			wantTake(t, q, 1, []api.News{q[2].N}, but(q, 2, told(8, q[2].N.K, 4)), api.OK)
			wantTake(t, q, 2, []api.News{q[2].N, q[0].N}, []api.Told{told(3, a, 3), q[1], told(8, q[2].N.K, 4)}, api.OK)
		}
	}
}

func TestTakeTellsNoneTwice(t *testing.T) {
	// What has most left is told once, however much it has left beside the others.
	q := []api.Told{told(3, alive(1), 1), told(5, alive(1), 64), told(6, alive(1), 1)}
	wantTake(t, q, 2, []api.News{q[1].N, q[0].N}, []api.Told{told(5, alive(1), 63), q[2]}, api.OK)
	wantTake(t, q, 3, []api.News{q[1].N, q[0].N, q[2].N}, []api.Told{told(5, alive(1), 63)}, api.OK)
	wantTake(t, q[1:2], 64, []api.News{q[1].N}, []api.Told{told(5, alive(1), 63)}, api.OK)
}

func TestTakeOfAQueueThatMayNotBe(t *testing.T) {
	for _, q := range badQueues() {
		for _, k := range []int{0, 1, 2, 64, 65, -1, math.MinInt, math.MaxInt} {
			wantTake(t, q, k, nil, nil, api.ErrArg)
		}
	}
}

func TestTakeOfEachFourLefts(t *testing.T) {
	for i := range 256 {
		q := []api.Told{
			told(1, alive(3), 1+i%4), told(2, left(0), 1+i/4%4), told(40, dead(greatest), 1+i/16%4), told(63, suspect(3), 1+i/64),
		}
		for k := range 7 {
			wantTakeLikeSlow(t, q, k)
		}
	}
}

func TestTakeOfWhatIsDrawn(t *testing.T) {
	r := rand.New(rand.NewSource(seed))
	for range 3000 {
		q := few(r)
		for _, k := range []int{0, 1, r.Intn(5), r.Intn(len(q) + 1), len(q), len(q) + 1, math.MaxInt} {
			wantTakeLikeSlow(t, q, k)
		}
	}
}

// P7.4

// wantOneThingOfANode fails if a queue may not be, or has two things of one node.
func wantOneThingOfANode(t *testing.T, q []api.Told) {
	t.Helper()
	wantCheck(t, q, api.OK)
	count := map[int]int{}
	for _, x := range q {
		count[x.N.Who]++
		if count[x.N.Who] > 1 {
			t.Errorf("%v has node %d twice", q, x.N.Who)
		}
	}
}

func TestOfOneNodeThereIsOneThing(t *testing.T) {
	r := rand.New(rand.NewSource(seed))
	for range 300 {
		var q []api.Told
		best := map[int]api.Know{}
		for range 30 {
			n := of(r.Intn(7)*9, api.Know{Inc: uint64(r.Intn(3)), State: r.Intn(4)})
			q = added(q, n, 1+r.Intn(64))
			wantOneThingOfANode(t, q)
			if was, there := best[n.Who]; !there || slowBeats(n.K, was) {
				best[n.Who] = n.K
			}
		}
		if len(q) != len(best) {
			t.Errorf("%v; want one thing of each of %v", q, best)
		}
		for _, x := range q {
			if best[x.N.Who] != x.N.K {
				t.Errorf("%v; want of each the best of %v", q, best)
			}
		}
	}
}

// tellings are how often each was told till nothing was left, so many at once.
func tellings(t *testing.T, q []api.Told, k int) map[api.News]int {
	t.Helper()
	count := map[api.News]int{}
	bound := 0
	for _, x := range q {
		bound += x.Left
	}
	for range bound {
		if len(q) == 0 {
			return count
		}
		next, then := taken(q, k)
		for _, n := range next {
			count[n]++
		}
		wantOneThingOfANode(t, then)
		q = then
	}
	if len(q) > 0 {
		t.Errorf("behind %d times of %d there are %v yet", bound, k, q)
	}
	return count
}

func TestWhatIsAddedIsToldAsOftenAsItWasToBe(t *testing.T) {
	r := rand.New(rand.NewSource(seed))
	for range 120 {
		q := few(r)
		for _, k := range []int{1, 2, 3, 8, 64, 65, math.MaxInt} {
			count := tellings(t, q, k)
			if len(count) != len(q) {
				t.Errorf("%v was told of %v", count, q)
			}
			for _, x := range q {
				if count[x.N] != x.Left {
					t.Errorf("of %v by %d %v was told %d times; want %d", q, k, x.N, count[x.N], x.Left)
				}
			}
		}
	}
}

func TestWhatIsAddedInWhateverOrderIsToldAsOften(t *testing.T) {
	l := []api.Told{told(9, suspect(2), 5), told(0, alive(0), 1), told(63, left(1), 64), told(4, dead(7), 2)}
	orders(len(l), func(order []int) {
		var q []api.Told
		for _, i := range order {
			q = added(q, l[i].N, l[i].Left)
			// Again, and by what it beats, nothing comes of it.
			q = added(q, l[i].N, 64)
			if l[i].N.K != alive(0) {
				q = added(q, of(l[i].N.Who, alive(0)), 64)
			}
		}
		wantSame(t, q, []api.Told{l[1], l[3], l[0], l[2]}, true)
		count := tellings(t, q, 3)
		for _, x := range l {
			if count[x.N] != x.Left {
				t.Errorf("%v was told %d times", x, count[x.N])
			}
		}
	})
}

func TestWhatIsBeatenIsToldNoMore(t *testing.T) {
	q := added(added(nil, of(4, suspect(1)), 3), of(5, alive(0)), 1)
	next, q := taken(q, 2)
	if !slices.Equal(next, []api.News{of(4, suspect(1)), of(5, alive(0))}) {
		t.Errorf("told: %v", next)
	}
	// What beats it is told as often as it was to be, whatever was told of the other one.
	q = added(q, of(4, alive(2)), 2)
	wantSame(t, q, []api.Told{told(4, alive(2), 2)}, true)
	wantTake(t, q, 8, []api.News{of(4, alive(2))}, []api.Told{told(4, alive(2), 1)}, api.OK)
	_, q = taken(q, 8)
	// What was told to its end is not known any more: it may be added again.
	q = added(q, of(5, alive(0)), 1)
	wantSame(t, q, []api.Told{told(4, alive(2), 1), told(5, alive(0), 1)}, true)
	wantTake(t, q, 8, []api.News{of(4, alive(2)), of(5, alive(0))}, nil, api.OK)
}

func TestAddedAndTakenAgainAndAgain(t *testing.T) {
	r := rand.New(rand.NewSource(seed))
	for range 300 {
		var q, slow []api.Told
		for range 60 {
			n, often := of(r.Intn(10), api.Know{Inc: uint64(r.Intn(5)), State: r.Intn(4)}), 1+r.Intn(4)
			q, slow = added(q, n, often), slowAdd(slow, n, often)
			wantSame(t, q, slow, true)
			k := r.Intn(4)
			next, rest := slowTake(slow, k)
			wantTake(t, q, k, next, rest, api.OK)
			_, q = taken(q, k)
			slow = rest
			wantOneThingOfANode(t, q)
		}
		for len(slow) > 0 {
			next, rest := slowTake(slow, 1)
			wantTake(t, q, 1, next, rest, api.OK)
			_, q = taken(q, 1)
			slow = rest
		}
		wantSame(t, q, nil, true)
	}
}

func TestTheGreatestQueueComesToItsEnd(t *testing.T) {
	q := each(64, left(greatest), 64)
	for round := 64; round > 0; round-- {
		wantSame(t, q, each(64, left(greatest), round), true)
		next, then := taken(q, 64)
		if len(next) != 64 {
			t.Fatalf("round %d told %v", round, next)
		}
		q = then
	}
	wantSame(t, q, nil, true)
	count := tellings(t, each(64, left(greatest), 64), 1)
	for who := range 64 {
		if count[of(who, left(greatest))] != 64 {
			t.Errorf("node %d: %v", who, count)
		}
	}
}

// R3, R4

// badRoom is a queue with room behind it that has something else, and may not be.
func badRoom() []api.Told {
	return []api.Told{told(2, suspect(3), 1), told(4, left(1), 2), told(6, alive(2), 1), told(1, dead(8), 70), told(9, api.Know{State: 9}, 3), told(9, alive(7), 0)}
}

// spoil changes an answer in each place, and in the room behind it.
func spoil(q []api.Told) {
	q = q[:cap(q)]
	for at := range q {
		q[at] = told(77, api.Know{Inc: 77, State: 77}, 77)
	}
}

func TestQueuesThatAreHandedInStayAsTheyWere(t *testing.T) {
	for n := range 7 {
		room := badRoom()
		was := slices.Clone(room)
		q := room[:n]
		for _, x := range []api.Told{told(0, alive(1), 1), told(2, dead(3), 5), told(4, left(1), 5), told(4, alive(1), 5), told(5, alive(0), 64), told(63, left(0), 2), told(-1, alive(1), 1), told(64, alive(1), 1), told(3, api.Know{State: 4}, 1), told(3, alive(1), 0), told(3, alive(1), 65)} {
			then, _ := Add(q, x.N, x.Left)
			spoil(then)
			wantStays(t, "what came of Add", room, was)
		}
		for _, k := range []int{-1, 0, 1, 2, 3, 4, math.MaxInt} {
			next, then, _ := Take(q, k)
			spoil(then)
			for at := range next {
				next[at] = of(78, api.Know{Inc: 78, State: 78})
			}
			_ = append(next, of(79, alive(79)))
			wantStays(t, "what came of Take", room, was)
		}
		Check(q)
		Same(q, room)
		wantStays(t, "Check, or Same,", room, was)
	}
}

func TestAnswersShareNothing(t *testing.T) {
	q := []api.Told{told(2, suspect(3), 2), told(4, left(1), 2), told(6, alive(2), 1)}
	for _, n := range []api.News{of(2, alive(0)), of(4, dead(2)), of(5, alive(0)), of(-1, alive(0))} {
		first, _ := Add(q, n, 3)
		second, e := Add(q, n, 3)
		spoil(first)
		wantAdd(t, q, n, 3, second, e)
	}
	for k := range 5 {
		next, first := taken(q, k)
		news, second := taken(q, k)
		spoil(first)
		wantTake(t, q, k, news, second, api.OK)
		clear(next)
		wantTake(t, q, k, news, second, api.OK)
	}
}

func TestWhatIsHandedInMayBeChangedBehindTheCall(t *testing.T) {
	q := []api.Told{told(2, suspect(3), 2), told(4, left(1), 2)}
	then := added(q, of(3, alive(0)), 1)
	asItWas := added(q, of(4, alive(0)), 1)
	refused, _ := Add(q, of(4, alive(0)), 0)
	next, rest := taken(q, 1)
	_, none := taken(q, 0)
	spoil(q)
	wantSame(t, then, []api.Told{told(2, suspect(3), 2), told(3, alive(0), 1), told(4, left(1), 2)}, true)
	for _, x := range [][]api.Told{asItWas, refused, none} {
		wantSame(t, x, []api.Told{told(2, suspect(3), 2), told(4, left(1), 2)}, true)
	}
	wantSame(t, rest, []api.Told{told(2, suspect(3), 1), told(4, left(1), 2)}, true)
	if !slices.Equal(next, []api.News{of(2, suspect(3))}) {
		t.Errorf("told: %v", next)
	}
}

func TestAnswersComeAgain(t *testing.T) {
	r := rand.New(rand.NewSource(seed))
	for range 1000 {
		q, o := few(r), few(r)
		if len(q) > 0 && r.Intn(4) == 0 {
			at := r.Intn(len(q))
			l := bad(q[at].N.Who)
			q[at] = l[r.Intn(len(l))]
		}
		n, often, k := of(r.Intn(66)-1, api.Know{Inc: uint64(r.Intn(4)), State: r.Intn(6) - 1}), r.Intn(67)-1, r.Intn(6)-1
		wantCheck(t, q, Check(q))
		wantSame(t, q, o, Same(q, o))
		then, e := Add(q, n, often)
		wantAdd(t, q, n, often, then, e)
		next, rest, e := Take(q, k)
		wantTake(t, q, k, next, rest, e)
		x, e := Budget(often, k)
		wantBudget(t, often, k, x, e)
	}
}
