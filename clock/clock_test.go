package clock

import (
	"math"
	"math/rand"
	"slices"
	"strconv"
	"strings"
	"testing"

	"tattle/api"
)

// The tests' draws are from this seed, so that a failure comes again.
const seed = 1

const maxTicks = api.MaxTicks

// beats are told by words: t0 is a tick of node 0, f0 its fall, r0 its rise.
func beats(s string) []api.Beat {
	var l []api.Beat
	for _, w := range strings.Fields(s) {
		node, err := strconv.Atoi(w[1:])
		if err != nil {
			panic(err)
		}
		l = append(l, api.Beat{Node: node, What: strings.IndexByte("tfr", w[0])})
	}
	return l
}

// ticking is so many ticks of a node.
func ticking(node, n int) []api.Beat {
	var l []api.Beat
	for range n {
		l = append(l, api.Beat{Node: node})
	}
	return l
}

// inTurn is so many ticks of n nodes, one after the other.
func inTurn(n, ticks int) []api.Beat {
	var l []api.Beat
	for i := range ticks {
		l = append(l, api.Beat{Node: i % n})
	}
	return l
}

// drawn are up to so many beats of n nodes that may be, and mostly ticks.
func drawn(r *rand.Rand, n, upTo int) []api.Beat {
	var l []api.Beat
	down := map[int]bool{}
	for range r.Intn(upTo + 1) {
		b := api.Beat{Node: r.Intn(n)}
		switch {
		case down[b.Node]:
			b.What = api.RiseB
		case r.Intn(8) == 0:
			b.What = api.FallB
		}
		down[b.Node] = b.What == api.FallB
		l = append(l, b)
	}
	return l
}

// slowTicks is a node's ticks as the chapter tells them, beat by beat; -1, if it has none.
func slowTicks(l []api.Beat, node, from, to int) int64 {
	up, ticks := true, int64(0)
	for i, b := range l[:to] {
		if i == from && !up {
			return -1
		}
		if b.Node != node {
			continue
		}
		switch b.What {
		case api.TickB:
			if i >= from {
				ticks++
			}
		case api.FallB:
			if i >= from {
				return -1
			}
			up = false
		case api.RiseB:
			up = true
		}
	}
	if !up {
		return -1
	}
	return ticks
}

// slowNear asks each two nodes from each place to each place.
func slowNear(n int, l []api.Beat, d, r int64) bool {
	for to := range len(l) + 1 {
		for from := range to + 1 {
			for one := range n {
				for other := range n {
					a, b := slowTicks(l, one, from, to), slowTicks(l, other, from, to)
					if a >= 0 && b >= a && b-a > d+a/r {
						return false
					}
				}
			}
		}
	}
	return true
}

// slowFar goes from all beats down.
func slowFar(n int, l []api.Beat, d, r int64) int {
	k := len(l)
	for !slowNear(n, l[:k], d, r) {
		k--
	}
	return k
}

// guards says whether g may be a guard, the greatest or not.
func guards(g, term, d, r int64) bool {
	return g == 0 || g-1+d+(g-1)/r < term
}

// badBeats are beats, of so many nodes, that may not be.
func badBeats() map[string]struct {
	n int
	l []api.Beat
} {
	type set = struct {
		n int
		l []api.Beat
	}
	bad := map[string]set{
		"401 beats":               {2, inTurn(2, 401)},
		"many beats":              {1, ticking(0, 1<<16)},
		"node -1":                 {2, []api.Beat{{Node: -1}}},
		"node n":                  {2, beats("t0 t1 t2")},
		"node 64":                 {64, beats("t63 t64")},
		"the least node":          {64, []api.Beat{{Node: math.MinInt}}},
		"the greatest node":       {64, []api.Beat{{Node: math.MaxInt}}},
		"kind 3":                  {2, []api.Beat{{What: 3}}},
		"kind -1":                 {2, []api.Beat{{What: -1}}},
		"the least kind":          {2, []api.Beat{{What: math.MinInt}}},
		"the greatest kind":       {2, []api.Beat{{What: math.MaxInt}}},
		"kind 3 of one down":      {2, append(beats("f0"), api.Beat{What: 3})},
		"kind -1 of one down":     {2, append(beats("f0"), api.Beat{What: -1})},
		"a tick of one down":      {2, beats("t0 f0 t0")},
		"a fall of one down":      {2, beats("f0 f0")},
		"a rise of one up":        {2, beats("r0")},
		"a rise behind a tick":    {2, beats("t0 r0")},
		"a rise behind a rise":    {2, beats("f0 r0 r0")},
		"a tick behind two falls": {2, beats("f0 r0 f0 t0")},
		"another one is down":     {2, beats("f0 r1")},
		"the last one is down":    {64, beats("f63 t63")},
		"wrong behind much":       {2, append(inTurn(2, 399), api.Beat{What: 2})},
		"wrong ahead of much":     {2, append(beats("r1"), inTurn(2, 399)...)},
	}
	for _, n := range []int{0, -1, 65, math.MinInt, math.MaxInt, 1 << 32, 1<<32 + 1} {
		bad["nobody's, of "+strconv.Itoa(n)] = set{n, nil}
		bad["beats of "+strconv.Itoa(n)] = set{n, beats("t0")}
	}
	return bad
}

// badBounds are a d and an r that may not be.
var badBounds = [][2]int64{{-1, 1}, {-1, 10}, {math.MinInt64, 1}, {maxTicks + 1, 1}, {math.MaxInt64, 1}, {0, 0}, {2, 0}, {2, -1}, {2, math.MinInt64}, {2, maxTicks + 1}, {2, math.MaxInt64}, {-1, 0}, {maxTicks + 1, maxTicks + 1}}

// wantSame fails if what was handed in is not as it was.
func wantSame(t *testing.T, call string, l, was []api.Beat) {
	t.Helper()
	if !slices.Equal(l, was) {
		t.Errorf("%s changed %v to %v", call, was, l)
	}
}

func wantCheck(t *testing.T, n int, l []api.Beat, want api.Errno) {
	t.Helper()
	was := slices.Clone(l)
	if e := Check(n, l); e != want {
		t.Errorf("Check(%d, %v): %d; want %d", n, l, e, want)
	}
	wantSame(t, "Check", l, was)
}

func wantTicks(t *testing.T, n int, l []api.Beat, node, from, to int, ticks int64, want api.Errno) {
	t.Helper()
	was := slices.Clone(l)
	if x, e := Ticks(n, l, node, from, to); x != ticks || e != want {
		t.Errorf("Ticks(%d, %v, %d, %d, %d): %d, %d; want %d, %d", n, l, node, from, to, x, e, ticks, want)
	}
	wantSame(t, "Ticks", l, was)
}

// wantFar asks Near too: clocks are near, if they are of all beats.
func wantFar(t *testing.T, n int, l []api.Beat, d, r int64, far int, want api.Errno) {
	t.Helper()
	was := slices.Clone(l)
	if x, e := Far(n, l, d, r); x != far || e != want {
		t.Errorf("Far(%d, %v, %d, %d): %d, %d; want %d, %d", n, l, d, r, x, e, far, want)
	}
	near := want == api.OK && far == len(l)
	if x, e := Near(n, l, d, r); x != near || e != want {
		t.Errorf("Near(%d, %v, %d, %d): %v, %d; want %v, %d", n, l, d, r, x, e, near, want)
	}
	wantSame(t, "Far, or Near,", l, was)
}

func wantGuard(t *testing.T, term, d, r, g int64, want api.Errno) {
	t.Helper()
	if x, e := Guard(term, d, r); x != g || e != want {
		t.Errorf("Guard(%d, %d, %d): %d, %d; want %d, %d", term, d, r, x, e, g, want)
	}
}

// P4.1

func TestCheckOfBeatsThatMayBe(t *testing.T) {
	for _, n := range []int{1, 2, 63, 64} {
		wantCheck(t, n, nil, api.OK)
		wantCheck(t, n, []api.Beat{}, api.OK)
		wantCheck(t, n, inTurn(n, 399), api.OK)
		wantCheck(t, n, inTurn(n, 400), api.OK)
		wantCheck(t, n, []api.Beat{{Node: n - 1}, {Node: n - 1, What: api.FallB}, {Node: n - 1, What: api.RiseB}, {Node: n - 1}}, api.OK)
	}
	for _, s := range []string{"t0", "f0", "f0 r0", "f0 r0 f0", "f0 r0 t0", "f0 t1 r0", "f0 f1 r1 r0", "t1 f0 t1 f1 r0 t0 r1 t1"} {
		wantCheck(t, 2, beats(s), api.OK)
	}
	var all []api.Beat
	for range 100 {
		all = append(all, beats("t0 f0 r0 t1")...)
	}
	wantCheck(t, 2, all, api.OK)
}

func TestCheckOfBeatsThatMayNotBe(t *testing.T) {
	for name, c := range badBeats() {
		was := slices.Clone(c.l)
		if e := Check(c.n, c.l); e != api.ErrArg {
			t.Errorf("Check of %s: %d", name, e)
		}
		wantSame(t, "Check", c.l, was)
	}
}

func TestCheckOfEachBeatBehindEach(t *testing.T) {
	for _, c := range []struct {
		s    string
		down bool
	}{{"", false}, {"t0", false}, {"f0", true}, {"f0 r0", false}, {"f0 f1", true}, {"f1", false}, {"f0 r0 t0 f0", true}} {
		for what := -2; what <= 4; what++ {
			want := api.ErrArg
			if c.down && what == api.RiseB || !c.down && (what == api.TickB || what == api.FallB) {
				want = api.OK
			}
			wantCheck(t, 2, append(beats(c.s), api.Beat{What: what}), want)
		}
	}
}

func TestTicksFromEachPlaceToEach(t *testing.T) {
	l := beats("t0 t1 t0 f0 t1 r0 t0 f1 t0 r1 t1 f0 r0")
	// Of each node, from each place, its ticks up to that place and to each one behind it; where they end it has none.
	for node, rows := range [][][]int64{
		{{0, 1, 1, 2}, {0, 0, 1}, {0, 1}, {0}, {}, {}, {0, 1, 1, 2, 2, 2}, {0, 0, 1, 1, 1}, {0, 1, 1, 1}, {0, 0, 0}, {0, 0}, {0}, {}, {0}},
		{{0, 0, 1, 1, 1, 2, 2, 2}, {0, 1, 1, 1, 2, 2, 2}, {0, 0, 0, 1, 1, 1}, {0, 0, 1, 1, 1}, {0, 1, 1, 1}, {0, 0, 0}, {0, 0}, {0}, {}, {}, {0, 1, 1, 1}, {0, 0, 0}, {0, 0}, {0}},
	} {
		for from, row := range rows {
			for to := from; to <= len(l); to++ {
				if to-from < len(row) {
					wantTicks(t, 2, l, node, from, to, row[to-from], api.OK)
				} else {
					wantTicks(t, 2, l, node, from, to, 0, api.ErrState)
				}
			}
		}
	}
}

func TestTicksOfOneThatFallsAndRises(t *testing.T) {
	l := beats("t0 f0 r0 t0")
	wantTicks(t, 1, l, 0, 0, 1, 1, api.OK)
	wantTicks(t, 1, l, 0, 0, 2, 0, api.ErrState)
	wantTicks(t, 1, l, 0, 0, 3, 0, api.ErrState)
	wantTicks(t, 1, l, 0, 0, 4, 0, api.ErrState)
	wantTicks(t, 1, l, 0, 1, 1, 0, api.OK)
	wantTicks(t, 1, l, 0, 1, 3, 0, api.ErrState)
	wantTicks(t, 1, l, 0, 2, 2, 0, api.ErrState)
	wantTicks(t, 1, l, 0, 2, 3, 0, api.ErrState)
	wantTicks(t, 1, l, 0, 2, 4, 0, api.ErrState)
	wantTicks(t, 1, l, 0, 3, 4, 1, api.OK)
	wantTicks(t, 1, l, 0, 4, 4, 0, api.OK)
}

func TestTicksOfNoneAndOfTheMost(t *testing.T) {
	for _, n := range []int{1, 64} {
		for _, node := range []int{0, n - 1} {
			wantTicks(t, n, nil, node, 0, 0, 0, api.OK)
			wantTicks(t, n, []api.Beat{}, node, 0, 0, 0, api.OK)
			l := ticking(node, 400)
			wantTicks(t, n, l, node, 0, 400, 400, api.OK)
			wantTicks(t, n, l, node, 1, 400, 399, api.OK)
			wantTicks(t, n, l, node, 0, 399, 399, api.OK)
			wantTicks(t, n, l, node, 200, 300, 100, api.OK)
			wantTicks(t, n, l, node, 400, 400, 0, api.OK)
		}
	}
	wantTicks(t, 64, ticking(0, 400), 63, 0, 400, 0, api.OK)
	wantTicks(t, 64, inTurn(64, 400), 15, 0, 400, 7, api.OK)
	wantTicks(t, 64, inTurn(64, 400), 16, 0, 400, 6, api.OK)
}

func TestTicksOfNoSuchNodeOrPlace(t *testing.T) {
	l := beats("t0 f1 t0 f0")
	for _, c := range [][3]int{
		{-1, 0, 1}, {2, 0, 1}, {64, 0, 1}, {math.MinInt, 0, 1}, {math.MaxInt, 0, 1}, {1 << 32, 0, 1},
		{0, -1, 1}, {0, -1, -1}, {0, math.MinInt, 1}, {0, 0, -1}, {0, 0, math.MinInt},
		{0, 0, 5}, {0, 5, 5}, {0, 5, 6}, {0, 4, 5}, {0, 0, math.MaxInt}, {0, math.MaxInt, math.MaxInt}, {0, 1 << 32, 1 << 32},
		{0, 1, 0}, {0, 4, 3}, {0, 2, 0}, {0, 5, 4}, {0, math.MaxInt, 0},
	} {
		wantTicks(t, 2, l, c[0], c[1], c[2], 0, api.ErrArg)
	}
	// Also where it has none: the first error is answered.
	wantTicks(t, 2, l, 1, 2, 5, 0, api.ErrArg)
	wantTicks(t, 2, l, 1, 3, 2, 0, api.ErrArg)
	wantTicks(t, 2, l, 1, -1, 3, 0, api.ErrArg)
	wantTicks(t, 2, l, 1, 2, 3, 0, api.ErrState)
	wantTicks(t, 1, nil, 0, 0, 1, 0, api.ErrArg)
	wantTicks(t, 1, nil, 1, 0, 0, 0, api.ErrArg)
	wantTicks(t, 64, nil, 64, 0, 0, 0, api.ErrArg)
	wantTicks(t, 64, ticking(63, 400), 63, 0, 401, 0, api.ErrArg)
}

func TestTicksOfBeatsThatMayNotBe(t *testing.T) {
	for name, c := range badBeats() {
		for _, at := range [][3]int{{0, 0, 0}, {0, 0, 1}, {0, 0, len(c.l)}, {-1, 3, 2}, {64, -1, -1}} {
			if x, e := Ticks(c.n, c.l, at[0], at[1], at[2]); x != 0 || e != api.ErrArg {
				t.Errorf("Ticks of %s at %v: %d, %d", name, at, x, e)
			}
		}
	}
}

func TestTicksOfWhatIsDrawn(t *testing.T) {
	r := rand.New(rand.NewSource(seed))
	for range 300 {
		n := 1 + r.Intn(5)
		l := drawn(r, n, 14)
		for node := range n {
			for to := range len(l) + 1 {
				for from := range to + 1 {
					ticks, want := slowTicks(l, node, from, to), api.OK
					if ticks < 0 {
						ticks, want = 0, api.ErrState
					}
					wantTicks(t, n, l, node, from, to, ticks, want)
				}
			}
		}
	}
}

// P4.2

func TestFarOfFew(t *testing.T) {
	for _, c := range []struct {
		s    string
		d, r int64
		far  int
	}{
		{"t0 t0 t0", 2, 10, 2},
		{"t0 t0 t0", 3, 10, 3},
		{"t0 t0 t0", 0, 1, 0},
		{"t0 t0 t0", 1, 1, 1},
		{"t1 t1 t1", 2, 10, 2},
		{"t0 t1", 0, 1, 0},
		{"t0 t1 t0 t1", 1, maxTicks, 4},
		{"t0 t1 t1 t0", 1, maxTicks, 2},
		{"t0 t1 t1 t0", 2, maxTicks, 4},
		{"f0 r0 f1 r1", 0, maxTicks, 4},
		{"f0 t1 t1 t1 r0", 0, 1, 5},
		{"f0 t1 t1 t1 r0 t1", 0, 1, 5},
		{"t0 f1 t0 t0 r1 t0 t1", 1, maxTicks, 7},
		{"t0 f1 t0 t0 r1 t0 t0 t1", 1, maxTicks, 6},
	} {
		wantFar(t, 2, beats(c.s), c.d, c.r, c.far, api.OK)
	}
}

func TestFarOfNone(t *testing.T) {
	for _, n := range []int{1, 2, 64} {
		for _, d := range []int64{0, 1, maxTicks} {
			for _, r := range []int64{1, 2, maxTicks} {
				wantFar(t, n, nil, d, r, 0, api.OK)
				wantFar(t, n, []api.Beat{}, d, r, 0, api.OK)
			}
		}
	}
}

func TestFarOfOneNode(t *testing.T) {
	for _, l := range [][]api.Beat{ticking(0, 1), ticking(0, 400), beats("t0 t0 f0 r0 t0 t0 t0 f0")} {
		wantFar(t, 1, l, 0, maxTicks, len(l), api.OK)
		wantFar(t, 1, l, 0, 1, len(l), api.OK)
	}
}

// behindBy: one node ticks d times, then by turns with the other one till that has r ticks, and then twice: d and 1 more than r.
func behindBy(one, other, d, r int) []api.Beat {
	l := ticking(one, d)
	for range r - 1 {
		l = append(l, api.Beat{Node: other}, api.Beat{Node: one})
	}
	l = append(l, api.Beat{Node: other})
	return append(l, ticking(one, 2)...)
}

func TestFarGoesByTheFewerOnesByR(t *testing.T) {
	for _, d := range []int{2, 3, 10} {
		for _, r := range []int{1, 2, 3, 7, 50, 190} {
			for _, nodes := range [][2]int{{0, 1}, {1, 0}} {
				l := behindBy(nodes[0], nodes[1], d, r)
				wantFar(t, 2, l, int64(d), int64(r), len(l), api.OK)
				wantFar(t, 2, l, int64(d), int64(r)+1, len(l)-1, api.OK)
				wantFar(t, 2, l, int64(d), maxTicks, len(l)-1, api.OK)
				wantFar(t, 2, append(l, api.Beat{Node: nodes[0]}), int64(d), int64(r), len(l), api.OK)
			}
		}
	}
}

func TestFarAsksEachTwo(t *testing.T) {
	for _, n := range []int{3, 5, 64} {
		for _, two := range [][2]int{{0, 1}, {0, n - 1}, {n - 1, 0}, {n / 2, n - 1}} {
			// All others are down from the beginning on.
			var ahead []api.Beat
			for node := range n {
				if node != two[0] && node != two[1] {
					ahead = append(ahead, api.Beat{Node: node, What: api.FallB})
				}
			}
			l := append(ahead, behindBy(two[0], two[1], 3, 4)...)
			wantFar(t, n, l, 3, 4, len(l), api.OK)
			wantFar(t, n, l, 3, 5, len(l)-1, api.OK)
			wantFar(t, n, append(ahead, ticking(two[1], 5)...), 4, maxTicks, n-2+4, api.OK)
		}
	}
	wantFar(t, 3, beats("t0 t1 t0 t1 t2"), 2, maxTicks, 5, api.OK)
	wantFar(t, 3, beats("t0 t1 t0 t1 t2"), 1, maxTicks, 2, api.OK)
}

func TestFarAsksFromEachPlace(t *testing.T) {
	// In all both tick alike; from the middle on they do not.
	l := append(ticking(0, 5), ticking(1, 5)...)
	for d := range int64(5) {
		wantFar(t, 2, l, d, maxTicks, int(d), api.OK)
	}
	wantFar(t, 2, l, 5, maxTicks, 10, api.OK)
	l = append(inTurn(2, 100), beats("t0 t0 t1 t1 t1 t0")...)
	wantFar(t, 2, l, 2, maxTicks, 104, api.OK)
	wantFar(t, 2, l, 3, maxTicks, 106, api.OK)
	// A node that rises is asked from there on, and not for what came ahead of it.
	l = beats("f1 t0 t0 t0 t0 r1 t0 t1 t0 t1 t1 t1 f0 t1 t1 t1 t1 r0 t1 t1")
	wantFar(t, 2, l, 1, maxTicks, 10, api.OK)
	wantFar(t, 2, l, 2, maxTicks, 11, api.OK)
	wantFar(t, 2, l, 3, maxTicks, 20, api.OK)
}

func TestFarOfTheMost(t *testing.T) {
	for _, n := range []int{2, 3, 64} {
		wantFar(t, n, inTurn(n, 400), 1, maxTicks, 400, api.OK)
		wantFar(t, n, inTurn(n, 400), 0, 1, 0, api.OK)
		wantFar(t, n, append(inTurn(n, 399), api.Beat{Node: 398 % n}), 1, maxTicks, 399, api.OK)
		wantFar(t, n, ticking(n-1, 400), 399, maxTicks, 399, api.OK)
		wantFar(t, n, ticking(n-1, 400), 400, maxTicks, 400, api.OK)
		wantFar(t, n, ticking(n-1, 400), maxTicks, maxTicks, 400, api.OK)
	}
}

func TestFarByWhatMayNotBe(t *testing.T) {
	for _, b := range badBounds {
		wantFar(t, 2, nil, b[0], b[1], 0, api.ErrArg)
		wantFar(t, 2, beats("t0 t1"), b[0], b[1], 0, api.ErrArg)
		wantFar(t, 1, ticking(0, 400), b[0], b[1], 0, api.ErrArg)
	}
	for name, c := range badBeats() {
		for _, b := range append(badBounds, [2]int64{0, 1}, [2]int64{maxTicks, maxTicks}) {
			far, e := Far(c.n, c.l, b[0], b[1])
			near, f := Near(c.n, c.l, b[0], b[1])
			if far != 0 || near || e != api.ErrArg || f != api.ErrArg {
				t.Errorf("Far, and Near, of %s by %v: %d, %d; %v, %d", name, b, far, e, near, f)
			}
		}
	}
}

func TestFarOfWhatIsDrawn(t *testing.T) {
	r := rand.New(rand.NewSource(seed))
	for range 2000 {
		n, d, by := 1+r.Intn(4), int64(r.Intn(5)), int64(1+r.Intn(5))
		l := drawn(r, n, 25)
		wantFar(t, n, l, d, by, slowFar(n, l, d, by), api.OK)
	}
}

// P4.3

func TestGuardOfFew(t *testing.T) {
	for _, c := range []struct{ term, d, r, g int64 }{
		{10, 2, 4, 7},
		{2, 2, 4, 0},
		{3, 2, 4, 1},
		{0, 0, 1, 0},
		{0, 5, 9, 0},
		{1, 0, 1, 1},
		{1, 1, 1, 0},
		{2, 0, 1, 1},
		{3, 0, 1, 2},
		{10, 0, 9, 9},
		{10, 0, 10, 10},
		{10, 10, 1, 0},
		{10, 9, 1, 1},
	} {
		wantGuard(t, c.term, c.d, c.r, c.g, api.OK)
	}
}

func TestGuardAtTheEdges(t *testing.T) {
	for _, c := range []struct{ term, d, r, g int64 }{
		{maxTicks, 0, maxTicks, maxTicks},
		{maxTicks - 1, 0, maxTicks, maxTicks - 1},
		{maxTicks, 0, maxTicks - 1, maxTicks - 1},
		{maxTicks, 1, maxTicks, maxTicks - 1},
		{maxTicks, 0, 1, maxTicks / 2},
		{maxTicks - 1, 0, 1, maxTicks / 2},
		{maxTicks - 2, 0, 1, maxTicks/2 - 1},
		{maxTicks, maxTicks, maxTicks, 0},
		{maxTicks, maxTicks, 1, 0},
		{maxTicks, maxTicks - 1, 1, 1},
		{maxTicks, maxTicks - 1, maxTicks, 1},
		{maxTicks, maxTicks - 2, 1, 1},
		{maxTicks, maxTicks - 2, 2, 2},
		{maxTicks - 1, maxTicks, maxTicks, 0},
		{maxTicks - 1, maxTicks - 1, 1, 0},
		{0, maxTicks, maxTicks, 0},
		{0, 0, maxTicks, 0},
		{1, 0, maxTicks, 1},
		{1 << 32, 0, maxTicks, 1 << 32},
		{1<<32 + 1, 0, 1, 1<<31 + 1},
	} {
		wantGuard(t, c.term, c.d, c.r, c.g, api.OK)
	}
}

func TestGuardOfAllThatAreSmall(t *testing.T) {
	for term := range int64(40) {
		for d := range int64(42) {
			for r := int64(1); r <= 42; r++ {
				var g int64
				for x := range term + 3 {
					if guards(x, term, d, r) {
						g = x
					}
				}
				wantGuard(t, term, d, r, g, api.OK)
			}
		}
	}
}

func TestGuardIsTheGreatest(t *testing.T) {
	r := rand.New(rand.NewSource(seed))
	for range 20000 {
		term, by := r.Int63n(maxTicks+1)>>r.Intn(41), 1+r.Int63n(maxTicks)>>r.Intn(41)
		d := r.Int63n(min(2*term+1, maxTicks)) >> r.Intn(41)
		g := must(Guard(term, d, by))
		if g < 0 || !guards(g, term, d, by) || guards(g+1, term, d, by) {
			t.Errorf("Guard(%d, %d, %d): %d", term, d, by, g)
		}
	}
}

func TestGuardOfWhatMayNotBe(t *testing.T) {
	for _, term := range []int64{-1, math.MinInt64, maxTicks + 1, math.MaxInt64} {
		for _, b := range append(badBounds, [2]int64{0, 1}, [2]int64{2, 4}, [2]int64{maxTicks, maxTicks}) {
			wantGuard(t, term, b[0], b[1], 0, api.ErrArg)
		}
	}
	for _, term := range []int64{0, 1, 10, maxTicks} {
		for _, b := range badBounds {
			wantGuard(t, term, b[0], b[1], 0, api.ErrArg)
		}
	}
}

// P4.4

// nearOnes are beats of n nodes that are near by d and r: of what is drawn, as far as they are.
func nearOnes(r *rand.Rand, n int, d, by int64) []api.Beat {
	l := drawn(r, n, 40)
	return l[:must(Far(n, l, d, by))]
}

// together are the ticks from one place to another one of the nodes that have ticks there.
func together(n int, l []api.Beat, from, to int) []int64 {
	var all []int64
	for node := range n {
		if ticks, e := Ticks(n, l, node, from, to); e == api.OK {
			all = append(all, ticks)
		}
	}
	return all
}

func TestUnderTheGuardNobodyHasTheTerm(t *testing.T) {
	r := rand.New(rand.NewSource(seed))
	tight := 0
	for range 300 {
		n, d, by, term := 2+r.Intn(2), int64(1+r.Intn(5)), int64(1+r.Intn(4)), int64(1+r.Intn(12))
		l, g := nearOnes(r, n, d, by), must(Guard(term, d, by))
		for to := range len(l) + 1 {
			for from := range to + 1 {
				all := together(n, l, from, to)
				if len(all) == 0 || slices.Max(all) < term {
					continue
				}
				if fewest := slices.Min(all); fewest < g {
					t.Errorf("%v, by %d and %d, from %d to %d: %v; the guard of %d is %d", l, d, by, from, to, all, term, g)
				} else if fewest == g {
					tight++
				}
			}
		}
	}
	// Else what was drawn would not tell, were a guard greater than it is.
	if tight == 0 {
		t.Error("nobody had a term's ticks where another one had its guard's")
	}
}

func TestNearStayNear(t *testing.T) {
	r := rand.New(rand.NewSource(seed))
	for range 300 {
		n, d, by := 1+r.Intn(4), int64(r.Intn(6)), int64(2+r.Intn(6))
		l := nearOnes(r, n, d, by)
		for k := range len(l) + 1 {
			wantFar(t, n, l[:k], d, by, k, api.OK)
		}
		for _, more := range []int64{1, 2, maxTicks - d} {
			wantFar(t, n, l, d+more, by, len(l), api.OK)
		}
		for less := int64(1); less < by; less++ {
			wantFar(t, n, l, d, less, len(l), api.OK)
		}
	}
}

func TestGuardIsNoMoreThanItsTerm(t *testing.T) {
	r := rand.New(rand.NewSource(seed))
	for range 20000 {
		term, d, by := r.Int63n(maxTicks+1)>>r.Intn(41), r.Int63n(maxTicks+1)>>r.Intn(41), 1+r.Int63n(maxTicks)>>r.Intn(41)
		g := must(Guard(term, d, by))
		if g > term {
			t.Errorf("Guard(%d, %d, %d): %d", term, d, by, g)
		}
		// And it does not rise with d, nor fall with r, or the term.
		if d < maxTicks && must(Guard(term, d+1, by)) > g || by < maxTicks && must(Guard(term, d, by+1)) < g || term < maxTicks && must(Guard(term+1, d, by)) < g {
			t.Errorf("Guard(%d, %d, %d): %d, and one beside it goes the wrong way", term, d, by, g)
		}
	}
}

// must is an answer without an error.
func must[T any](x T, e api.Errno) T {
	if e != api.OK {
		panic("error " + strconv.Itoa(int(e)))
	}
	return x
}

// R3, R4

func TestRoomBehindBeatsStaysAsItWas(t *testing.T) {
	room := beats("t0 t1 f0 t1 r0 t0 t1")
	was := slices.Clone(room)
	for k := range len(room) {
		Check(2, room[:k])
		Ticks(2, room[:k], 1, 0, k)
		Near(2, room[:k], 2, 2)
		Far(2, room[:k], 2, 2)
	}
	wantSame(t, "a call", room, was)
}

func TestAnswersComeAgain(t *testing.T) {
	r := rand.New(rand.NewSource(seed))
	for range 300 {
		n, d, by, term := r.Intn(6), int64(r.Intn(6)-1), int64(r.Intn(6)), int64(r.Intn(12)-1)
		l := drawn(r, 4, 40)
		node, from, to := r.Intn(n+1), r.Intn(len(l)+1), r.Intn(len(l)+2)
		wantCheck(t, n, l, Check(n, l))
		ticks, e := Ticks(n, l, node, from, to)
		wantTicks(t, n, l, node, from, to, ticks, e)
		far, e := Far(n, l, d, by)
		wantFar(t, n, l, d, by, far, e)
		g, e := Guard(term, d, by)
		wantGuard(t, term, d, by, g, e)
	}
}
