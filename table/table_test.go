package table

import (
	"math"
	"math/rand"
	"slices"
	"strconv"
	"testing"

	"tattle/api"
)

// The tests' draws are from this seed, so that a failure comes again.
const seed = 1

// greatest is the greatest incarnation that there is.
const greatest = math.MaxUint64

func alive(inc uint64) api.Know   { return api.Know{Inc: inc, State: api.Alive} }
func suspect(inc uint64) api.Know { return api.Know{Inc: inc, State: api.Suspect} }
func dead(inc uint64) api.Know    { return api.Know{Inc: inc, State: api.Dead} }
func left(inc uint64) api.Know    { return api.Know{Inc: inc, State: api.Left} }

// rising is what may be known, each of which beats all ahead of it: incarnations at the edges, and between.
func rising() []api.Know {
	var l []api.Know
	for _, inc := range []uint64{0, 1, 3, 1<<32 - 1, 1 << 32, 1<<63 - 1, 1 << 63, greatest - 1, greatest} {
		l = append(l, alive(inc), suspect(inc), dead(inc), left(inc))
	}
	return l
}

// bad is what may not be known, of incarnations at either end.
func bad() []api.Know {
	var l []api.Know
	for _, s := range []int{-1, 4, 5, 256, -256, 1 << 32, math.MinInt, math.MaxInt} {
		l = append(l, api.Know{Inc: 0, State: s}, api.Know{Inc: greatest, State: s})
	}
	return l
}

// sizes are how many nodes a table may have, at either end and between.
var sizes = []int{1, 2, 3, 7, 63, 64}

// badCounts are how many nodes no table has.
var badCounts = []int{0, -1, 65, 66, -2, -64, 128, 256, 320, 1 << 31, 1<<32 + 1, 1<<32 + 64, -1 << 31, -1<<32 + 1, math.MinInt, math.MinInt + 1, math.MaxInt - 1, math.MaxInt}

// all is a table of n nodes of which the same is known.
func all(n int, k api.Know) []api.Know { return slices.Repeat([]api.Know{k}, n) }

// with is a table in which something else is known of a node.
func with(t []api.Know, node int, k api.Know) []api.Know {
	then := slices.Clone(t)
	then[node] = k
	return then
}

// drawn is a table of n nodes, of few incarnations, so that some of it comes twice.
func drawn(r *rand.Rand, n int) []api.Know {
	var t []api.Know
	for range n {
		t = append(t, api.Know{Inc: uint64(r.Intn(4)), State: r.Intn(4)})
	}
	return t
}

// someSize is how many nodes a table has that is drawn, mostly few.
func someSize(r *rand.Rand) int {
	if r.Intn(8) == 0 {
		return 1 + r.Intn(64)
	}
	return 1 + r.Intn(5)
}

// badTables are of too few nodes, of too many, and with one that may not be known at each place.
func badTables() [][]api.Know {
	tables := [][]api.Know{nil, {}, all(65, alive(0)), all(66, dead(1)), all(128, suspect(2)), all(1000, left(3)), all(65, bad()[0])}
	for _, k := range bad() {
		for _, n := range []int{1, 2, 3} {
			tables = append(tables, all(n, k))
			for node := range n {
				tables = append(tables, with(all(n, suspect(2)), node, k))
			}
		}
	}
	for node := range 64 {
		tables = append(tables, with(all(64, alive(1)), node, bad()[node%len(bad())]))
	}
	return tables
}

// slowBeats is as layer 5 tells it.
func slowBeats(a, b api.Know) bool {
	if a.Inc > b.Inc {
		return true
	}
	return a.Inc == b.Inc && a.State > b.State
}

func slowJoin(a, b api.Know) api.Know {
	if slowBeats(b, a) {
		return b
	}
	return a
}

func slowMerge(t, o []api.Know) []api.Know {
	var m []api.Know
	for node := range t {
		m = append(m, slowJoin(t[node], o[node]))
	}
	return m
}

// slowNodes are the nodes of a table for which it holds.
func slowNodes(n int, holds func(node int) bool) []int {
	var l []int
	for node := 0; node < n; node++ {
		if holds(node) {
			l = append(l, node)
		}
	}
	return l
}

func slowUp(t []api.Know) []int {
	return slowNodes(len(t), func(node int) bool { return t[node].State == api.Alive || t[node].State == api.Suspect })
}

func slowOthers(t []api.Know, me int) []int {
	return slowNodes(len(t), func(node int) bool { return node != me && t[node].State != api.Left })
}

func slowBehind(t, o []api.Know) []int {
	return slowNodes(len(t), func(node int) bool { return slowBeats(o[node], t[node]) })
}

// orders calls f with each order of the numbers below n.
func orders(n int, f func(l []int)) {
	l := slowNodes(n, func(int) bool { return true })
	var place func(at int)
	place = func(at int) {
		if at == n {
			f(l)
			return
		}
		for i := at; i < n; i++ {
			l[at], l[i] = l[i], l[at]
			place(at + 1)
			l[at], l[i] = l[i], l[at]
		}
	}
	place(0)
}

// wantStays fails if a table that was handed in is not as it was.
func wantStays(t *testing.T, call string, l, was []api.Know) {
	t.Helper()
	if !slices.Equal(l, was) {
		t.Errorf("%s changed %v to %v", call, was, l)
	}
}

func wantNew(t *testing.T, n int, want []api.Know, wantE api.Errno) {
	t.Helper()
	if x, e := New(n); !slices.Equal(x, want) || e != wantE {
		t.Errorf("New(%d): %v, %d; want %v, %d", n, x, e, want, wantE)
	}
}

func wantCheck(t *testing.T, l []api.Know, want api.Errno) {
	t.Helper()
	was := slices.Clone(l)
	if e := Check(l); e != want {
		t.Errorf("Check(%v): %d; want %d", l, e, want)
	}
	wantStays(t, "Check", l, was)
}

func wantSame(t *testing.T, a, b []api.Know, want bool) {
	t.Helper()
	wasA, wasB := slices.Clone(a), slices.Clone(b)
	if x := Same(a, b); x != want {
		t.Errorf("Same(%v, %v): %v", a, b, x)
	}
	wantStays(t, "Same", a, wasA)
	wantStays(t, "Same", b, wasB)
}

func wantApply(t *testing.T, l []api.Know, who int, k api.Know, want []api.Know, wantYes bool, wantE api.Errno) {
	t.Helper()
	was := slices.Clone(l)
	if x, yes, e := Apply(l, who, k); !slices.Equal(x, want) || yes != wantYes || e != wantE {
		t.Errorf("Apply(%v, %d, %v): %v, %v, %d; want %v, %v, %d", l, who, k, x, yes, e, want, wantYes, wantE)
	}
	wantStays(t, "Apply", l, was)
}

// wantApplyRefused fails if Apply does not refuse it, and answers the table as it was.
func wantApplyRefused(t *testing.T, l []api.Know, who int, k api.Know) {
	t.Helper()
	wantApply(t, l, who, k, slices.Clone(l), false, api.ErrArg)
}

func wantMerge(t *testing.T, l, o, want []api.Know, wantE api.Errno) {
	t.Helper()
	wasL, wasO := slices.Clone(l), slices.Clone(o)
	if x, e := Merge(l, o); !slices.Equal(x, want) || e != wantE {
		t.Errorf("Merge(%v, %v): %v, %d; want %v, %d", l, o, x, e, want, wantE)
	}
	wantStays(t, "Merge", l, wasL)
	wantStays(t, "Merge", o, wasO)
}

func wantBehind(t *testing.T, l, o []api.Know, want []int, wantE api.Errno) {
	t.Helper()
	wasL, wasO := slices.Clone(l), slices.Clone(o)
	if x, e := Behind(l, o); !slices.Equal(x, want) || e != wantE {
		t.Errorf("Behind(%v, %v): %v, %d; want %v, %d", l, o, x, e, want, wantE)
	}
	wantStays(t, "Behind", l, wasL)
	wantStays(t, "Behind", o, wasO)
}

func wantUp(t *testing.T, l []api.Know, want []int) {
	t.Helper()
	was := slices.Clone(l)
	if x := Up(l); !slices.Equal(x, want) {
		t.Errorf("Up(%v): %v; want %v", l, x, want)
	}
	wantStays(t, "Up", l, was)
}

func wantOthers(t *testing.T, l []api.Know, me int, want []int) {
	t.Helper()
	was := slices.Clone(l)
	if x := Others(l, me); !slices.Equal(x, want) {
		t.Errorf("Others(%v, %d): %v; want %v", l, me, x, want)
	}
	wantStays(t, "Others", l, was)
}

func wantLowest(t *testing.T, l []api.Know, want int, wantE api.Errno) {
	t.Helper()
	was := slices.Clone(l)
	if x, e := Lowest(l); x != want || e != wantE {
		t.Errorf("Lowest(%v): %d, %d; want %d, %d", l, x, e, want, wantE)
	}
	wantStays(t, "Lowest", l, was)
}

// mustNoError panics where a call of a test's own making failed.
func mustNoError(e api.Errno) {
	if e != api.OK {
		panic("error " + strconv.Itoa(int(e)))
	}
}

func merged(t, o []api.Know) []api.Know {
	m, e := Merge(t, o)
	mustNoError(e)
	return m
}

func applied(t []api.Know, who int, k api.Know) []api.Know {
	then, _, e := Apply(t, who, k)
	mustNoError(e)
	return then
}

// P6.1

func TestNewIsOfNodesAllAlive(t *testing.T) {
	wantNew(t, 1, []api.Know{{Inc: 0, State: 0}}, api.OK)
	wantNew(t, 3, []api.Know{{Inc: 0, State: 0}, {Inc: 0, State: 0}, {Inc: 0, State: 0}}, api.OK)
	for n := 1; n <= 64; n++ {
		wantNew(t, n, all(n, alive(0)), api.OK)
		x, _ := New(n)
		wantCheck(t, x, api.OK)
	}
}

func TestNewOfACountThatMayNotBe(t *testing.T) {
	for _, n := range badCounts {
		wantNew(t, n, nil, api.ErrArg)
	}
}

func TestNewIsNewEachTime(t *testing.T) {
	for _, n := range sizes {
		first, _ := New(n)
		for node := range first {
			first[node] = dead(9)
		}
		wantNew(t, n, all(n, alive(0)), api.OK)
	}
}

func TestCheckOfWhatMayBe(t *testing.T) {
	for n := 1; n <= 64; n++ {
		for _, k := range rising() {
			wantCheck(t, all(n, k), api.OK)
		}
	}
	wantCheck(t, rising(), api.OK)
}

func TestCheckOfTooFewAndTooMany(t *testing.T) {
	wantCheck(t, nil, api.ErrArg)
	wantCheck(t, []api.Know{}, api.ErrArg)
	wantCheck(t, rising()[:0], api.ErrArg)
	for _, n := range []int{65, 66, 100, 128, 256, 257, 65536, 65537} {
		wantCheck(t, all(n, alive(0)), api.ErrArg)
		wantCheck(t, all(n, left(greatest)), api.ErrArg)
	}
}

func TestCheckOfOneThatMayNotBeAtEachPlace(t *testing.T) {
	for _, k := range bad() {
		for _, n := range sizes {
			wantCheck(t, all(n, k), api.ErrArg)
			for node := range n {
				wantCheck(t, with(all(n, suspect(3)), node, k), api.ErrArg)
			}
		}
	}
	for s := -10; s <= 10; s++ {
		want := api.ErrArg
		if s == 0 || s == 1 || s == 2 || s == 3 {
			want = api.OK
		}
		wantCheck(t, []api.Know{alive(1), {Inc: 1, State: s}, left(1)}, want)
	}
}

func TestSameOfTheSame(t *testing.T) {
	for _, n := range sizes {
		for _, k := range rising() {
			wantSame(t, all(n, k), all(n, k), true)
		}
	}
	wantSame(t, rising(), rising(), true)
	one := rising()
	wantSame(t, one, one, true)
}

func TestSameOfTablesThatDifferAtOneNode(t *testing.T) {
	for _, n := range sizes {
		l := all(n, suspect(3))
		for node := range n {
			for _, k := range []api.Know{suspect(2), suspect(4), suspect(0), suspect(greatest), suspect(3 + 1<<32), suspect(3 + 1<<63), alive(3), dead(3), left(3), alive(4), dead(2)} {
				wantSame(t, l, with(l, node, k), false)
				wantSame(t, with(l, node, k), l, false)
				wantSame(t, with(l, node, k), with(l, node, k), true)
			}
		}
	}
}

func TestSameOfTheSameNodesInAnotherOrder(t *testing.T) {
	wantSame(t, []api.Know{alive(1), dead(2)}, []api.Know{dead(2), alive(1)}, false)
	wantSame(t, []api.Know{alive(1), dead(2), alive(1)}, []api.Know{alive(1), alive(1), dead(2)}, false)
}

func TestSameOfDifferentLength(t *testing.T) {
	for _, n := range []int{1, 2, 3, 63, 64} {
		l := all(n, alive(0))
		wantSame(t, l, all(n+1, alive(0)), false)
		wantSame(t, all(n+1, alive(0)), l, false)
		wantSame(t, nil, l, false)
		wantSame(t, l, nil, false)
		wantSame(t, l, []api.Know{}, false)
	}
}

func TestSameOfWhatMayNotBe(t *testing.T) {
	wantSame(t, nil, nil, true)
	wantSame(t, nil, []api.Know{}, true)
	wantSame(t, []api.Know{}, nil, true)
	wantSame(t, []api.Know{}, rising()[:0], true)
	for _, l := range badTables() {
		wantSame(t, l, slices.Clone(l), true)
		wantSame(t, l, append(slices.Clone(l), alive(0)), false)
		for node := range min(len(l), 3) {
			other := with(l, node, api.Know{Inc: l[node].Inc + 1, State: l[node].State})
			wantSame(t, l, other, false)
			wantSame(t, other, l, false)
			wantSame(t, l, with(l, node, api.Know{Inc: l[node].Inc, State: l[node].State ^ 1}), false)
		}
	}
}

// P6.2

func TestApplyOfTheExample(t *testing.T) {
	n, _ := New(3)
	then := []api.Know{alive(0), dead(0), alive(0)}
	wantApply(t, n, 1, dead(0), then, true, api.OK)
	wantApply(t, then, 1, dead(0), then, false, api.OK)
}

func TestApplyToEachNode(t *testing.T) {
	for _, n := range sizes {
		l := all(n, suspect(3))
		for node := range n {
			for _, k := range []api.Know{dead(3), left(3), alive(4), suspect(4), alive(greatest), left(greatest), alive(1 << 32), alive(1 << 63)} {
				wantApply(t, l, node, k, with(l, node, k), true, api.OK)
			}
			for _, k := range []api.Know{suspect(3), alive(3), left(2), alive(0), left(0)} {
				wantApply(t, l, node, k, l, false, api.OK)
			}
		}
	}
}

func TestApplyOfEachTwo(t *testing.T) {
	known := rising()
	for i, was := range known {
		for j, k := range known {
			l := []api.Know{left(greatest), was, alive(0)}
			wantApply(t, l, 1, k, with(l, 1, known[max(i, j)]), j > i, api.OK)
		}
	}
}

func TestApplyToNoNode(t *testing.T) {
	for _, n := range sizes {
		l := all(n, suspect(3))
		for _, who := range []int{-1, n, -2, n + 1, -n, -n - 1, 2 * n, 65, 1 << 32, 1<<32 + n - 1, -1 << 32, math.MinInt, math.MinInt + 1, math.MaxInt - 1, math.MaxInt} {
			if who >= 0 && who < n {
				continue
			}
			for _, k := range []api.Know{alive(0), suspect(3), dead(9), left(greatest), bad()[0]} {
				wantApplyRefused(t, l, who, k)
			}
		}
	}
}

func TestApplyOfWhatMayNotBe(t *testing.T) {
	for _, n := range sizes {
		for _, k := range bad() {
			for _, l := range [][]api.Know{all(n, alive(0)), all(n, suspect(3)), all(n, left(greatest))} {
				for node := range n {
					wantApplyRefused(t, l, node, k)
				}
			}
		}
	}
}

func TestApplyToATableThatMayNotBe(t *testing.T) {
	for _, l := range badTables() {
		for _, who := range []int{0, 1, 2, len(l) - 1, len(l), -1, 64, math.MinInt, math.MaxInt} {
			for _, k := range []api.Know{alive(0), dead(4), left(greatest), bad()[0]} {
				wantApplyRefused(t, l, who, k)
			}
		}
	}
}

func TestMergeOfFew(t *testing.T) {
	for _, c := range []struct{ l, o, want []api.Know }{
		{[]api.Know{alive(0)}, []api.Know{alive(0)}, []api.Know{alive(0)}},
		{[]api.Know{alive(0)}, []api.Know{suspect(0)}, []api.Know{suspect(0)}},
		{[]api.Know{dead(1), alive(2)}, []api.Know{alive(2), dead(1)}, []api.Know{alive(2), alive(2)}},
		{[]api.Know{left(5), dead(5), suspect(5), alive(5)}, []api.Know{alive(5), suspect(5), dead(5), left(5)}, []api.Know{left(5), dead(5), dead(5), left(5)}},
		{[]api.Know{left(greatest - 1), alive(greatest)}, []api.Know{alive(greatest), left(greatest - 1)}, []api.Know{alive(greatest), alive(greatest)}},
		{[]api.Know{left(1<<63 - 1), alive(1 << 32)}, []api.Know{alive(1 << 63), left(1)}, []api.Know{alive(1 << 63), alive(1 << 32)}},
	} {
		wantMerge(t, c.l, c.o, c.want, api.OK)
		wantMerge(t, c.o, c.l, c.want, api.OK)
		wantMerge(t, c.l, c.l, c.l, api.OK)
	}
}

func TestMergeOfEachTwo(t *testing.T) {
	known := rising()
	for i, a := range known {
		for j, b := range known {
			wantMerge(t, []api.Know{alive(0), a, b}, []api.Know{alive(0), b, a}, []api.Know{alive(0), known[max(i, j)], known[max(i, j)]}, api.OK)
		}
	}
}

func TestMergeOfTablesThatDifferAtOneNode(t *testing.T) {
	for _, n := range sizes {
		l := all(n, suspect(3))
		for node := range n {
			for _, k := range []api.Know{dead(3), left(3), alive(4), left(greatest)} {
				wantMerge(t, l, with(l, node, k), with(l, node, k), api.OK)
				wantMerge(t, with(l, node, k), l, with(l, node, k), api.OK)
			}
			for _, k := range []api.Know{alive(3), left(2), alive(0)} {
				wantMerge(t, l, with(l, node, k), l, api.OK)
				wantMerge(t, with(l, node, k), l, l, api.OK)
			}
		}
	}
}

// wantUnlike fails if Merge and Behind do not refuse two tables, in either order.
func wantUnlike(t *testing.T, l, o []api.Know) {
	t.Helper()
	wantMerge(t, l, o, nil, api.ErrArg)
	wantMerge(t, o, l, nil, api.ErrArg)
	wantBehind(t, l, o, nil, api.ErrArg)
	wantBehind(t, o, l, nil, api.ErrArg)
}

func TestMergeAndBehindOfDifferentLength(t *testing.T) {
	for n := 1; n <= 64; n++ {
		for _, other := range []int{n + 1, n - 1, n + 64, 0, 1, 64} {
			if other != n {
				wantUnlike(t, all(n, alive(0)), all(other, alive(0)))
				wantUnlike(t, all(n, alive(0)), all(other, dead(5)))
			}
		}
		wantUnlike(t, all(n, alive(0)), nil)
	}
}

func TestMergeAndBehindOfWhatMayNotBe(t *testing.T) {
	for _, l := range badTables() {
		wantUnlike(t, l, l)
		wantUnlike(t, l, all(len(l), alive(0)))
		wantUnlike(t, l, all(len(l), left(greatest)))
		wantUnlike(t, l, all(1, alive(0)))
		wantUnlike(t, l, all(64, alive(0)))
		for _, other := range badTables()[:4] {
			wantUnlike(t, l, other)
		}
	}
}

// P6.3

func TestUpOfFew(t *testing.T) {
	wantUp(t, []api.Know{alive(0), dead(0), suspect(0)}, []int{0, 2})
	wantUp(t, []api.Know{dead(0)}, nil)
	wantUp(t, []api.Know{left(greatest), dead(greatest)}, nil)
	wantUp(t, []api.Know{left(1), suspect(greatest), dead(2), alive(greatest)}, []int{1, 3})
}

func TestOthersOfFew(t *testing.T) {
	l := []api.Know{alive(0), dead(0), left(0), suspect(greatest), left(greatest), dead(greatest)}
	wantOthers(t, l, 0, []int{1, 3, 5})
	wantOthers(t, l, 1, []int{0, 3, 5})
	wantOthers(t, l, 2, []int{0, 1, 3, 5})
	wantOthers(t, l, 3, []int{0, 1, 5})
	wantOthers(t, l, 5, []int{0, 1, 3})
	wantOthers(t, []api.Know{dead(1)}, 0, nil)
	wantOthers(t, []api.Know{dead(1)}, 1, []int{0})
	wantOthers(t, []api.Know{left(1)}, 1, nil)
}

func TestLowestOfFew(t *testing.T) {
	wantLowest(t, []api.Know{dead(0)}, 0, api.ErrNone)
	wantLowest(t, []api.Know{left(0)}, 0, api.ErrNone)
	wantLowest(t, []api.Know{alive(0)}, 0, api.OK)
	wantLowest(t, []api.Know{suspect(greatest)}, 0, api.OK)
	wantLowest(t, []api.Know{left(1), dead(2), suspect(0), alive(9)}, 2, api.OK)
	wantLowest(t, []api.Know{left(1), alive(0), suspect(greatest), alive(9)}, 1, api.OK)
}

// wantPicked fails if the three calls that pick nodes of one table do not answer what the slow ones do, for each node and some that are none of the table's.
func wantPicked(t *testing.T, l []api.Know) {
	t.Helper()
	up := slowUp(l)
	wantUp(t, l, up)
	if len(up) == 0 {
		wantLowest(t, l, 0, api.ErrNone)
	} else {
		wantLowest(t, l, up[0], api.OK)
	}
	for me := -2; me <= len(l)+1; me++ {
		wantOthers(t, l, me, slowOthers(l, me))
	}
	for _, me := range []int{64, 1 << 32, -1 << 32, math.MinInt, math.MaxInt} {
		if me >= len(l) || me < 0 {
			wantOthers(t, l, me, slowOthers(l, -1))
		}
	}
}

func TestPickedOfNoneUpOfAllAndOfOneAlone(t *testing.T) {
	for _, n := range sizes {
		for _, k := range []api.Know{alive(0), suspect(1), dead(2), left(3), alive(greatest), left(greatest)} {
			wantPicked(t, all(n, k))
			for _, alone := range []api.Know{alive(0), suspect(3), dead(0), left(greatest)} {
				for node := range n {
					wantPicked(t, with(all(n, k), node, alone))
				}
			}
		}
	}
	for _, down := range []api.Know{dead(1), left(1)} {
		wantUp(t, all(64, down), nil)
		wantLowest(t, all(64, down), 0, api.ErrNone)
		wantUp(t, with(all(64, down), 63, alive(0)), []int{63})
		wantLowest(t, with(all(64, down), 63, suspect(0)), 63, api.OK)
	}
	wantOthers(t, all(3, alive(0)), 1, []int{0, 2})
	wantOthers(t, with(all(64, left(1)), 63, dead(0)), 0, []int{63})
	wantOthers(t, with(all(64, left(1)), 63, dead(0)), 63, nil)
}

func TestPickedOfEachFourStates(t *testing.T) {
	for i := range 256 {
		wantPicked(t, []api.Know{
			{Inc: 1, State: i % 4}, {Inc: 0, State: i / 4 % 4}, {Inc: greatest, State: i / 16 % 4}, {Inc: 1, State: i / 64},
		})
	}
}

func TestPickedOfWhatIsDrawn(t *testing.T) {
	r := rand.New(rand.NewSource(seed))
	for range 1000 {
		wantPicked(t, drawn(r, someSize(r)))
	}
}

func TestPickedOfTablesThatMayNotBe(t *testing.T) {
	for _, l := range badTables() {
		wantUp(t, l, nil)
		wantLowest(t, l, 0, api.ErrArg)
		for _, me := range []int{-1, 0, 1, 2, 63, 64, 65, math.MinInt, math.MaxInt} {
			wantOthers(t, l, me, nil)
		}
	}
}

func TestBehindOfFew(t *testing.T) {
	wantBehind(t, []api.Know{alive(0)}, []api.Know{alive(0)}, nil, api.OK)
	wantBehind(t, []api.Know{alive(0)}, []api.Know{suspect(0)}, []int{0}, api.OK)
	wantBehind(t, []api.Know{suspect(0)}, []api.Know{alive(0)}, nil, api.OK)
	wantBehind(t, []api.Know{suspect(3), left(2), alive(7), dead(1)}, []api.Know{dead(3), alive(3), left(6), dead(1)}, []int{0, 1}, api.OK)
	wantBehind(t, []api.Know{left(greatest - 1), left(1<<63 - 1), left(1)}, []api.Know{alive(greatest), alive(1 << 63), alive(1 << 32)}, []int{0, 1, 2}, api.OK)
}

func TestBehindOfTablesThatDifferAtOneNode(t *testing.T) {
	for _, n := range sizes {
		l := all(n, suspect(3))
		wantBehind(t, l, l, nil, api.OK)
		wantBehind(t, l, all(n, suspect(3)), nil, api.OK)
		wantBehind(t, l, all(n, left(2)), nil, api.OK)
		wantBehind(t, l, all(n, alive(4)), slowNodes(n, func(int) bool { return true }), api.OK)
		for node := range n {
			for _, k := range []api.Know{dead(3), left(3), alive(4), left(greatest)} {
				wantBehind(t, l, with(l, node, k), []int{node}, api.OK)
				wantBehind(t, with(l, node, k), l, nil, api.OK)
				wantBehind(t, with(l, node, k), all(n, alive(3)), nil, api.OK)
			}
			for _, k := range []api.Know{alive(3), left(2), alive(0)} {
				wantBehind(t, l, with(l, node, k), nil, api.OK)
				wantBehind(t, with(l, node, k), l, []int{node}, api.OK)
			}
		}
	}
}

func TestBehindOfEachTwo(t *testing.T) {
	known := rising()
	for i, a := range known {
		for j, b := range known {
			var want []int
			if j > i {
				want = []int{1}
			}
			wantBehind(t, []api.Know{alive(0), a}, []api.Know{alive(0), b}, want, api.OK)
		}
	}
}

// P6.4

func TestTablesThatAreDrawn(t *testing.T) {
	r := rand.New(rand.NewSource(seed))
	for range 3000 {
		n := someSize(r)
		l, o := drawn(r, n), drawn(r, n)
		m := slowMerge(l, o)
		wantMerge(t, l, o, m, api.OK)
		wantMerge(t, o, l, m, api.OK)
		wantBehind(t, l, o, slowBehind(l, o), api.OK)
		wantBehind(t, o, l, slowBehind(o, l), api.OK)
		// Merged with one another they are the same, and behind what was merged is neither.
		wantSame(t, merged(l, o), merged(o, l), true)
		for _, part := range [][]api.Know{l, o} {
			wantBehind(t, m, part, nil, api.OK)
			wantMerge(t, m, part, m, api.OK)
			wantMerge(t, part, m, m, api.OK)
			wantSame(t, part, m, len(slowBehind(part, m)) == 0)
		}
		wantMerge(t, l, l, l, api.OK)
	}
}

func TestMergeHangsOnNoOrderAndOnNothingTwice(t *testing.T) {
	r := rand.New(rand.NewSource(seed))
	for range 30 {
		n := someSize(r)
		tables := [][]api.Know{drawn(r, n), drawn(r, n), drawn(r, n), drawn(r, n), drawn(r, n)}
		want := tables[0]
		for _, o := range tables {
			want = slowMerge(want, o)
		}
		orders(len(tables), func(l []int) {
			met, twice := tables[l[0]], tables[l[0]]
			for _, i := range l {
				met = merged(met, tables[i])
				twice = merged(merged(tables[i], twice), tables[i])
			}
			wantSame(t, met, want, true)
			wantSame(t, twice, want, true)
			halves := merged(merged(tables[l[0]], tables[l[1]]), merged(merged(tables[l[2]], tables[l[3]]), tables[l[4]]))
			wantSame(t, halves, want, true)
		})
	}
}

func TestWhatIsAppliedInWhateverOrderComesToTheSame(t *testing.T) {
	r := rand.New(rand.NewSource(seed))
	for range 30 {
		n := someSize(r)
		first := drawn(r, n)
		var told []api.News
		want := slices.Clone(first)
		for range 6 {
			x := api.News{Who: r.Intn(min(n, 3)), K: api.Know{Inc: uint64(r.Intn(4)), State: r.Intn(4)}}
			want[x.Who] = slowJoin(want[x.Who], x.K)
			told = append(told, x)
		}
		orders(len(told), func(l []int) {
			met, twice := first, first
			for _, i := range l {
				who, k := told[i].Who, told[i].K
				met = applied(met, who, k)
				twice = applied(applied(twice, who, k), told[l[0]].Who, told[l[0]].K)
				wantApply(t, twice, who, k, twice, false, api.OK)
			}
			wantSame(t, met, want, true)
			wantSame(t, twice, want, true)
		})
	}
}

func TestWhatIsAppliedNodeByNodeIsMerged(t *testing.T) {
	r := rand.New(rand.NewSource(seed))
	for range 1000 {
		n := someSize(r)
		l, o := drawn(r, n), drawn(r, n)
		then, changed := l, []int(nil)
		for _, node := range r.Perm(n) {
			next, yes, e := Apply(then, node, o[node])
			mustNoError(e)
			if yes {
				changed = append(changed, node)
			}
			if yes == Same(then, next) {
				t.Errorf("Apply(%v, %d, %v): %v, %v", then, node, o[node], next, yes)
			}
			then = next
		}
		slices.Sort(changed)
		wantSame(t, then, slowMerge(l, o), true)
		wantBehind(t, l, o, changed, api.OK)
		wantBehind(t, then, o, nil, api.OK)
	}
}

// R3, R4

// badRoom is a table with room behind it that has something else, and may not be.
func badRoom() []api.Know {
	return []api.Know{suspect(3), left(1), alive(2), {State: 9}, dead(8), alive(7)}
}

func TestRoomBehindTablesStaysAsItWas(t *testing.T) {
	for n := range 7 {
		room, other := badRoom(), badRoom()
		other[0], other[2] = dead(9), left(0)
		was, wasOther := slices.Clone(room), slices.Clone(other)
		l, o := room[:n], other[:n]
		Check(l)
		Same(l, o)
		Up(l)
		Others(l, 0)
		Lowest(l)
		for _, answer := range []func() ([]api.Know, api.Errno){
			func() ([]api.Know, api.Errno) { return Merge(l, o) },
			func() ([]api.Know, api.Errno) { return Merge(l, l) },
			func() ([]api.Know, api.Errno) { then, _, e := Apply(l, 0, dead(5)); return then, e },
			func() ([]api.Know, api.Errno) { then, _, e := Apply(l, 0, alive(0)); return then, e },
			func() ([]api.Know, api.Errno) { then, _, e := Apply(l, -1, dead(5)); return then, e },
			func() ([]api.Know, api.Errno) { then, _, e := Apply(l, 0, api.Know{State: -1}); return then, e },
		} {
			then, _ := answer()
			for node := range then {
				then[node] = api.Know{Inc: 77, State: 77}
			}
			_ = append(then, api.Know{Inc: 78, State: 78})
		}
		nodes, _ := Behind(l, o)
		for i := range nodes {
			nodes[i] = -77
		}
		wantStays(t, "a call", room, was)
		wantStays(t, "a call", other, wasOther)
	}
}

func TestAnswersShareNothing(t *testing.T) {
	l, o := []api.Know{alive(0), dead(1), suspect(2)}, []api.Know{suspect(0), dead(1), alive(2)}
	lists := func() [][]int {
		behind, _ := Behind(l, o)
		return [][]int{Up(l), Others(l, 0), Others(l, 9), behind}
	}
	was := lists()
	for _, x := range lists() {
		for i := range x {
			x[i] = -77
		}
		_ = append(x, -78)
	}
	for i, x := range lists() {
		if !slices.Equal(x, was[i]) {
			t.Errorf("list %d: %v; want %v", i, x, was[i])
		}
	}
	first, second := merged(l, o), merged(l, o)
	first[0] = left(greatest)
	wantSame(t, second, []api.Know{suspect(0), dead(1), suspect(2)}, true)
	first, second = applied(l, 0, alive(0)), applied(l, 0, alive(0))
	first[0] = left(greatest)
	wantSame(t, second, l, true)
}

func TestAnswersComeAgain(t *testing.T) {
	r := rand.New(rand.NewSource(seed))
	for range 1000 {
		l, o := drawn(r, r.Intn(5)), drawn(r, r.Intn(5))
		if len(l) > 0 && r.Intn(4) == 0 {
			l[r.Intn(len(l))] = bad()[r.Intn(len(bad()))]
		}
		who, k := r.Intn(6)-1, api.Know{Inc: uint64(r.Intn(4)), State: r.Intn(6) - 1}
		wantCheck(t, l, Check(l))
		wantSame(t, l, o, Same(l, o))
		then, yes, e := Apply(l, who, k)
		wantApply(t, l, who, k, then, yes, e)
		m, e := Merge(l, o)
		wantMerge(t, l, o, m, e)
		behind, e := Behind(l, o)
		wantBehind(t, l, o, behind, e)
		wantUp(t, l, Up(l))
		wantOthers(t, l, who, Others(l, who))
		lowest, e := Lowest(l)
		wantLowest(t, l, lowest, e)
	}
}
