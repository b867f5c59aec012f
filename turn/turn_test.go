package turn

import (
	"math"
	"math/rand"
	"slices"
	"testing"

	"tattle/api"
	"tattle/dice"
)

// The tests' draws are from this seed, so that a failure comes again.
const seed = 1

// badNumbers are no nodes' numbers.
var badNumbers = []int{-1, 64, 65, -2, -63, -64, 127, 128, 255, 256, 319, 1 << 31, -1 << 31, 1 << 32, 1<<32 + 5, -1 << 32, -1<<32 + 5, math.MinInt, math.MinInt + 1, math.MaxInt - 1, math.MaxInt}

// badDice are dice that may not be.
var badDice = []api.Dice{
	{L: "", At: -1},
	{L: "", At: 1},
	{L: "abc", At: -1},
	{L: "abc", At: 4},
	{L: "abc", At: 1 << 32},
	{L: "abc", At: -1 << 32},
	{L: "abc", At: math.MaxInt},
	{L: "abc", At: math.MinInt},
}

// someDice are dice that may be: without octets, at their beginning, between, and at their end.
var someDice = []api.Dice{
	{},
	{L: "\x00"},
	{L: "\x07", At: 1},
	{L: "\x05\x01\xff\x80\x02\x07", At: 0},
	{L: "\x05\x01\xff\x80\x02\x07", At: 3},
	{L: "\x05\x01\xff\x80\x02\x07", At: 6},
}

// upTo are n numbers from 0 on.
func upTo(n int) []int {
	var l []int
	for i := range n {
		l = append(l, i)
	}
	return l
}

// falling are n numbers down to 0.
func falling(n int) []int {
	l := upTo(n)
	slices.Reverse(l)
	return l
}

// but is a list with something else at a place.
func but(l []int, at, n int) []int {
	then := slices.Clone(l)
	then[at] = n
	return then
}

// with is a list with one more at a place.
func with(l []int, at, n int) []int { return slices.Insert(slices.Clone(l), at, n) }

// without is a list with one less.
func without(l []int, at int) []int { return slices.Delete(slices.Clone(l), at, at+1) }

// swapped is a list of which two have changed places.
func swapped(l []int, i, j int) []int {
	then := slices.Clone(l)
	then[i], then[j] = then[j], then[i]
	return then
}

// copied is a turn that has nothing in common with another one.
func copied(x api.Turn) api.Turn { return api.Turn{L: slices.Clone(x.L), At: x.At} }

// arrangements are all lists of numbers below n, none twice, in each order.
func arrangements(n int) [][]int {
	all := [][]int{nil}
	for i := 0; i < len(all); i++ {
		for x := range n {
			if !slices.Contains(all[i], x) {
				all = append(all, append(slices.Clone(all[i]), x))
			}
		}
	}
	return all
}

// subsets are all lists of numbers below n that rise, none twice.
func subsets(n int) [][]int {
	var all [][]int
	for _, l := range arrangements(n) {
		if slices.IsSorted(l) {
			all = append(all, l)
		}
	}
	return all
}

// turns are all turns of numbers below n, each as far as can be.
func turns(n int) []api.Turn {
	var all []api.Turn
	for _, l := range arrangements(n) {
		for at := range len(l) + 1 {
			all = append(all, api.Turn{L: l, At: at})
		}
	}
	return all
}

// badLists are lists that are no numbers of nodes, none twice: each number that is none at each place, one that comes twice, and too many.
func badLists() [][]int {
	var lists [][]int
	for _, n := range []int{1, 2, 3, 63} {
		for at := range n {
			for _, x := range badNumbers {
				lists = append(lists, but(upTo(n), at, x))
			}
		}
	}
	for at := range 64 {
		lists = append(lists, but(upTo(64), at, badNumbers[at%len(badNumbers)]), but(upTo(64), at, -1), but(upTo(64), at, 64))
	}
	for _, n := range []int{2, 3, 5, 64} {
		for i := range n {
			for j := range n {
				if i != j {
					lists = append(lists, but(upTo(n), i, j))
				}
			}
		}
	}
	for at := range 65 {
		lists = append(lists, with(upTo(64), at, 0), with(upTo(64), at, 63), with(upTo(64), at, 64), with(upTo(64), at, -1))
	}
	for _, n := range []int{65, 66, 128, 1000} {
		lists = append(lists, upTo(n), falling(n), make([]int, n), slices.Repeat([]int{63}, n))
	}
	return lists
}

// unordered are lists of nodes' numbers, none twice, that fall at each place.
func unordered() [][]int {
	lists := [][]int{{63, 0}, {1, 0}, {63, 62}, {0, 2, 1}, {2, 0, 1}, {1, 2, 0}, {0, 63, 62}}
	for _, n := range []int{2, 3, 7, 63, 64} {
		lists = append(lists, falling(n))
		for at := range n - 1 {
			lists = append(lists, swapped(upTo(n), at, at+1), swapped(upTo(n), at, n-1), swapped(upTo(n), 0, at+1))
		}
	}
	return lists
}

// badTurns are turns that may not be, by their numbers, or by their At.
func badTurns() []api.Turn {
	var all []api.Turn
	for i, l := range badLists() {
		all = append(all, api.Turn{L: l, At: i % (len(l) + 1)})
	}
	for _, n := range []int{0, 1, 2, 3, 63, 64} {
		for _, at := range []int{n + 1, -1, n + 2, -2, -n - 1, 1 << 31, -1 << 31, 1 << 32, 1<<32 + n, -1 << 32, -1<<32 + n, math.MinInt, math.MinInt + 1, math.MaxInt - 1, math.MaxInt} {
			all = append(all, api.Turn{L: falling(n), At: at})
		}
	}
	return all
}

// badNodes are nodes that may not be.
func badNodes() [][]int { return append(badLists(), unordered()...) }

// drawnTurn is a turn of numbers below so many.
func drawnTurn(r *rand.Rand, below int) api.Turn {
	l := r.Perm(below)[:r.Intn(below+1)]
	return api.Turn{L: l, At: r.Intn(len(l) + 1)}
}

// drawnNodes are one or more nodes below so many.
func drawnNodes(r *rand.Rand, below int) []int {
	l := r.Perm(below)[:1+r.Intn(below)]
	slices.Sort(l)
	return l
}

// drawnDice are dice that may be, of up to n octets.
func drawnDice(r *rand.Rand, n int) api.Dice {
	b := make([]byte, r.Intn(n+1))
	r.Read(b)
	return api.Dice{L: string(b), At: r.Intn(len(b) + 1)}
}

// slowNext looks through the whole turn for those that are left of it; what is handed in may be, and there are nodes.
func slowNext(x api.Turn, d api.Dice, l []int) (int, api.Turn, api.Dice) {
	for at := range x.L {
		if at >= x.At && slices.Contains(l, x.L[at]) {
			return x.L[at], api.Turn{L: x.L, At: at + 1}, d
		}
	}
	order, then, e := dice.Shuffle(d, l)
	mustNoError(e)
	return order[0], api.Turn{L: order, At: 1}, then
}

// mustNoError panics where a call of a test's own making failed.
func mustNoError(e api.Errno) {
	if e != api.OK {
		panic("an error in a test's own making")
	}
}

// wantStays fails if a list that was handed in is not as it was.
func wantStays(t *testing.T, call string, l, was []int) {
	t.Helper()
	if !slices.Equal(l, was) {
		t.Errorf("%s changed %v to %v", call, was, l)
	}
}

func wantCheck(t *testing.T, x api.Turn, want api.Errno) {
	t.Helper()
	was := slices.Clone(x.L)
	if e := Check(x); e != want {
		t.Errorf("Check(%v): %d; want %d", x, e, want)
	}
	wantStays(t, "Check", x.L, was)
}

func wantNodes(t *testing.T, l []int, want api.Errno) {
	t.Helper()
	was := slices.Clone(l)
	if e := Nodes(l); e != want {
		t.Errorf("Nodes(%v): %d; want %d", l, e, want)
	}
	wantStays(t, "Nodes", l, was)
}

func wantSame(t *testing.T, a, b api.Turn, want bool) {
	t.Helper()
	wasA, wasB := slices.Clone(a.L), slices.Clone(b.L)
	if x := Same(a, b); x != want {
		t.Errorf("Same(%v, %v): %v", a, b, x)
	}
	if x := Same(b, a); x != want {
		t.Errorf("Same(%v, %v): %v", b, a, x)
	}
	wantStays(t, "Same", a.L, wasA)
	wantStays(t, "Same", b.L, wasB)
}

func wantNext(t *testing.T, x api.Turn, d api.Dice, l []int, n int, then api.Turn, dThen api.Dice, want api.Errno) {
	t.Helper()
	wasX, wasL := slices.Clone(x.L), slices.Clone(l)
	got, next, c, e := Next(x, d, l)
	if got != n || !slices.Equal(next.L, then.L) || next.At != then.At || c != dThen || e != want {
		t.Errorf("Next(%v, %x at %d, %v): %d, %v, at %d, %d; want %d, %v, at %d, %d", x, d.L, d.At, l, got, next, c.At, e, n, then, dThen.At, want)
	}
	wantStays(t, "Next", x.L, wasX)
	wantStays(t, "Next", l, wasL)
}

// wantNextOK fails if Next does not answer n, the turn and the dice.
func wantNextOK(t *testing.T, x api.Turn, d api.Dice, l []int, n int, then api.Turn, dThen api.Dice) {
	t.Helper()
	wantNext(t, x, d, l, n, then, dThen, api.OK)
}

// wantRefused fails if Next does not refuse it, and answers turn and dice as they were.
func wantRefused(t *testing.T, x api.Turn, d api.Dice, l []int, want api.Errno) {
	t.Helper()
	wantNext(t, x, d, l, 0, copied(x), d, want)
}

// wantLikeSlow fails if Next does not answer what the slow one does.
func wantLikeSlow(t *testing.T, x api.Turn, d api.Dice, l []int) {
	t.Helper()
	n, then, dThen := slowNext(x, d, l)
	wantNextOK(t, x, d, l, n, then, dThen)
}

// nodeAfter is who is asked next, and the turn and the dice then.
func nodeAfter(x api.Turn, d api.Dice, l []int) (int, api.Turn, api.Dice) {
	n, then, dThen, e := Next(x, d, l)
	mustNoError(e)
	return n, then, dThen
}

// asked are those who are asked, so many times, and the turn and the dice then.
func asked(x api.Turn, d api.Dice, l []int, times int) ([]int, api.Turn, api.Dice) {
	var all []int
	for range times {
		var n int
		n, x, d = nodeAfter(x, d, l)
		all = append(all, n)
	}
	return all, x, d
}

// P8.1

func TestCheckOfTurnsThatMayBe(t *testing.T) {
	wantCheck(t, api.Turn{}, api.OK)
	wantCheck(t, api.Turn{L: []int{}}, api.OK)
	wantCheck(t, api.Turn{L: upTo(3)[:0]}, api.OK)
	for n := range 65 {
		for at := range n + 1 {
			wantCheck(t, api.Turn{L: upTo(n), At: at}, api.OK)
			wantCheck(t, api.Turn{L: falling(n), At: at}, api.OK)
			wantCheck(t, api.Turn{L: falling(64)[:n], At: at}, api.OK)
		}
	}
	for _, l := range unordered() {
		for _, at := range []int{0, 1, len(l) - 1, len(l)} {
			wantCheck(t, api.Turn{L: l, At: at}, api.OK)
		}
	}
	for at := range 64 {
		wantCheck(t, api.Turn{L: without(falling(64), at), At: 63}, api.OK)
	}
	for _, x := range turns(4) {
		wantCheck(t, x, api.OK)
	}
	wantCheck(t, api.Turn{L: []int{63, 0, 5, 62, 1}, At: 3}, api.OK)
}

func TestCheckOfEachNumberAndEachAt(t *testing.T) {
	for n := -200; n <= 200; n++ {
		want := api.ErrArg
		if n >= 0 && n <= 63 {
			want = api.OK
		}
		wantCheck(t, api.Turn{L: []int{n}}, want)
		wantCheck(t, api.Turn{L: []int{n}, At: 1}, want)
		if n != 7 && n != 3 {
			wantCheck(t, api.Turn{L: []int{7, n, 3}, At: 2}, want)
			wantCheck(t, api.Turn{L: []int{7, 3, n}, At: 0}, want)
			wantCheck(t, api.Turn{L: []int{n, 7, 3}, At: 3}, want)
		}
		for _, most := range []int{0, 1, 2, 3, 63, 64} {
			want := api.ErrArg
			if n >= 0 && n <= most {
				want = api.OK
			}
			wantCheck(t, api.Turn{L: falling(most), At: n}, want)
		}
	}
}

func TestCheckOfOneThatComesTwice(t *testing.T) {
	wantCheck(t, api.Turn{L: []int{2, 2}}, api.ErrArg)
	wantCheck(t, api.Turn{L: []int{0, 0}, At: 2}, api.ErrArg)
	wantCheck(t, api.Turn{L: []int{63, 63}, At: 1}, api.ErrArg)
	wantCheck(t, api.Turn{L: []int{5, 9, 5}, At: 1}, api.ErrArg)
	for i := range 64 {
		for j := range 64 {
			want := api.ErrArg
			if i == j {
				want = api.OK
			}
			for _, at := range []int{0, 1, 64} {
				wantCheck(t, api.Turn{L: but(falling(64), i, 63-j), At: at}, want)
			}
		}
	}
}

func TestCheckOfTooMany(t *testing.T) {
	wantCheck(t, api.Turn{L: upTo(64), At: 64}, api.OK)
	for _, n := range []int{65, 66, 128, 320, 1000, 1 << 16} {
		for _, at := range []int{0, 1, 64, 65, n} {
			wantCheck(t, api.Turn{L: upTo(n), At: at}, api.ErrArg)
			wantCheck(t, api.Turn{L: make([]int, n), At: at}, api.ErrArg)
		}
	}
}

func TestCheckOfTurnsThatMayNotBe(t *testing.T) {
	for _, x := range badTurns() {
		wantCheck(t, x, api.ErrArg)
	}
	for _, l := range badLists() {
		for _, at := range []int{0, 1, len(l), len(l) + 1, -1} {
			wantCheck(t, api.Turn{L: l, At: at}, api.ErrArg)
		}
	}
}

func TestNodesThatMayBe(t *testing.T) {
	wantNodes(t, nil, api.OK)
	wantNodes(t, []int{}, api.OK)
	wantNodes(t, upTo(3)[:0], api.OK)
	for n := range 65 {
		wantNodes(t, upTo(n), api.OK)
		wantNodes(t, upTo(64)[n:], api.OK)
	}
	for at := range 64 {
		wantNodes(t, without(upTo(64), at), api.OK)
		for behind := at + 1; behind < 64; behind++ {
			wantNodes(t, []int{at, behind}, api.OK)
		}
	}
	wantNodes(t, []int{0, 7, 8, 31, 32, 63}, api.OK)
}

func TestNodesOfEachNumber(t *testing.T) {
	for n := -200; n <= 200; n++ {
		alone, between := api.ErrArg, api.ErrArg
		if n >= 0 && n <= 63 {
			alone = api.OK
		}
		if n == 6 || n == 7 {
			between = api.OK
		}
		wantNodes(t, []int{n}, alone)
		wantNodes(t, []int{5, n, 8}, between)
	}
}

func TestNodesThatMayNotBe(t *testing.T) {
	for _, l := range badNodes() {
		wantNodes(t, l, api.ErrArg)
	}
	wantNodes(t, []int{2, 1}, api.ErrArg)
	wantNodes(t, []int{2, 2}, api.ErrArg)
	wantNodes(t, []int{0, 0}, api.ErrArg)
	wantNodes(t, []int{63, 63}, api.ErrArg)
	wantNodes(t, []int{4, 9, 4}, api.ErrArg)
	wantNodes(t, []int{-1, 0}, api.ErrArg)
	wantNodes(t, []int{63, 64}, api.ErrArg)
}

func TestNodesInEachOrder(t *testing.T) {
	// Of each few numbers one order alone rises.
	for _, l := range arrangements(5) {
		want := api.OK
		for at := 1; at < len(l); at++ {
			if l[at-1] >= l[at] {
				want = api.ErrArg
			}
		}
		wantNodes(t, l, want)
	}
}

func TestSameOfTheSame(t *testing.T) {
	wantSame(t, api.Turn{}, api.Turn{}, true)
	wantSame(t, api.Turn{}, api.Turn{L: []int{}}, true)
	wantSame(t, api.Turn{L: upTo(4)[2:2], At: 0}, api.Turn{}, true)
	for _, n := range []int{1, 2, 3, 63, 64} {
		for at := range n + 1 {
			wantSame(t, api.Turn{L: falling(n), At: at}, api.Turn{L: falling(n), At: at}, true)
			wantSame(t, api.Turn{L: falling(64)[64-n:], At: at}, api.Turn{L: falling(n), At: at}, true)
		}
	}
	all := turns(3)
	for i, a := range all {
		for j, b := range all {
			wantSame(t, a, copied(b), i == j)
		}
	}
}

func TestSameOfDifferentLength(t *testing.T) {
	for _, n := range []int{1, 2, 3, 63, 64} {
		wantSame(t, api.Turn{}, api.Turn{L: upTo(n)}, false)
		for at := range n {
			wantSame(t, api.Turn{L: upTo(n)}, api.Turn{L: without(upTo(n), at)}, false)
			wantSame(t, api.Turn{L: upTo(n), At: at}, api.Turn{L: upTo(n)[:at], At: at}, false)
		}
	}
	// What is behind a list in its room does not count.
	room := []int{5, 6, 7, 8}
	wantSame(t, api.Turn{L: room[:2]}, api.Turn{L: room[:3]}, false)
	wantSame(t, api.Turn{L: room[:2]}, api.Turn{L: []int{5, 6, 9}[:2]}, true)
}

func TestSameOfTurnsThatDifferInOneAlone(t *testing.T) {
	for _, n := range []int{1, 2, 3, 7, 63} {
		x := api.Turn{L: falling(n), At: n / 2}
		for at := range n {
			wantSame(t, x, api.Turn{L: but(x.L, at, 63), At: x.At}, false)
			for other := range at {
				wantSame(t, x, api.Turn{L: swapped(x.L, at, other), At: x.At}, false)
			}
		}
		for at := range n + 1 {
			wantSame(t, x, api.Turn{L: falling(n), At: at}, at == x.At)
		}
	}
	x := api.Turn{L: upTo(64), At: 64}
	for at := range 64 {
		wantSame(t, x, api.Turn{L: upTo(64), At: at}, false)
		wantSame(t, x, api.Turn{L: swapped(upTo(64), at, (at+1)%64), At: 64}, false)
	}
}

func TestSameOfWhatMayNotBe(t *testing.T) {
	for _, x := range badTurns() {
		wantSame(t, x, copied(x), true)
		wantSame(t, x, api.Turn{L: x.L, At: x.At ^ 1}, false)
		wantSame(t, x, api.Turn{L: x.L, At: x.At ^ 1<<32}, false)
		wantSame(t, x, api.Turn{L: append(slices.Clone(x.L), 0), At: x.At}, false)
		if n := len(x.L); n > 0 {
			wantSame(t, x, api.Turn{L: but(x.L, n-1, x.L[n-1]^1), At: x.At}, false)
			wantSame(t, x, api.Turn{L: but(x.L, 0, x.L[0]^1<<32), At: x.At}, false)
			wantSame(t, x, api.Turn{L: but(x.L, n/2, x.L[n/2]^64), At: x.At}, false)
		}
	}
	wantSame(t, api.Turn{At: 1}, api.Turn{At: 2}, false)
	wantSame(t, api.Turn{At: 1}, api.Turn{At: -1}, false)
	wantSame(t, api.Turn{At: -1}, api.Turn{L: []int{}, At: -1}, true)
}

// P8.2

func TestNextOfTheExamples(t *testing.T) {
	l := []int{1, 2}
	wantNextOK(t, api.Turn{}, api.Dice{}, l, 2, api.Turn{L: []int{2, 1}, At: 1}, api.Dice{})
	wantNextOK(t, api.Turn{L: []int{2, 1}, At: 1}, api.Dice{}, l, 1, api.Turn{L: []int{2, 1}, At: 2}, api.Dice{})
	wantRefused(t, api.Turn{}, api.Dice{}, nil, api.ErrNone)
}

func TestNextFromEachPlace(t *testing.T) {
	d := api.Dice{L: "\x00\x01\x02", At: 1}
	x := []int{7, 0, 63, 4}
	l := []int{0, 4, 7, 63}
	for at, n := range x {
		wantNextOK(t, api.Turn{L: x, At: at}, d, l, n, api.Turn{L: x, At: at + 1}, d)
	}
	// At its end they are shuffled: by 1 of 4, 2 of 3, and 0, as there is no octet more.
	wantNextOK(t, api.Turn{L: x, At: 4}, d, l, 63, api.Turn{L: []int{63, 0, 7, 4}, At: 1}, api.Dice{L: d.L, At: 3})
	for at := range 64 {
		wantNextOK(t, api.Turn{L: falling(64), At: at}, d, upTo(64), 63-at, api.Turn{L: falling(64), At: at + 1}, d)
	}
}

func TestNextOfATurnOfWhichSomeAreNodes(t *testing.T) {
	d := api.Dice{L: "\x00\x00\x00"}
	x := []int{9, 1, 8, 3, 7, 5}
	for _, c := range []struct{ at, n, then int }{{0, 1, 2}, {1, 1, 2}, {2, 3, 4}, {3, 3, 4}, {4, 5, 6}, {5, 5, 6}} {
		wantNextOK(t, api.Turn{L: x, At: c.at}, d, []int{0, 1, 3, 5, 63}, c.n, api.Turn{L: x, At: c.then}, d)
	}
	// The turn's order counts, not that of the nodes.
	wantNextOK(t, api.Turn{L: []int{6, 5, 4, 3}}, d, []int{3, 4, 5}, 5, api.Turn{L: []int{6, 5, 4, 3}, At: 2}, d)
	for at := range 64 {
		one := []int{63 - at}
		for from := range at + 1 {
			wantNextOK(t, api.Turn{L: falling(64), At: from}, d, one, 63-at, api.Turn{L: falling(64), At: at + 1}, d)
		}
		// Who was asked already does not come again: there is a new order.
		wantNextOK(t, api.Turn{L: falling(64), At: at + 1}, d, one, 63-at, api.Turn{L: one, At: 1}, d)
	}
}

func TestNextOfATurnOfWhichNoneAreNodes(t *testing.T) {
	d := api.Dice{L: "\x02\x00\x09"}
	l := []int{2, 4, 6}
	// By 2 of 3, and 0 of 2.
	then, dThen := api.Turn{L: []int{4, 2, 6}, At: 1}, api.Dice{L: d.L, At: 2}
	for _, x := range []api.Turn{
		{},
		{L: []int{}},
		{L: []int{1, 3, 5}},
		{L: []int{1, 3, 5}, At: 1},
		{L: []int{1, 3, 5}, At: 3},
		{L: []int{6, 4, 2}, At: 3},
		{L: []int{2, 4, 6, 7}, At: 3},
		{L: []int{6, 3, 5}, At: 1},
		{L: []int{63}},
		{L: without(without(without(upTo(64), 6), 4), 2)},
	} {
		wantNextOK(t, x, d, l, 4, then, dThen)
	}
}

func TestNextOfOneNode(t *testing.T) {
	for _, d := range someDice {
		for _, n := range []int{0, 1, 31, 62, 63} {
			l := []int{n}
			// Of one nothing is drawn.
			wantNextOK(t, api.Turn{}, d, l, n, api.Turn{L: l, At: 1}, d)
			wantNextOK(t, api.Turn{L: l}, d, l, n, api.Turn{L: l, At: 1}, d)
			wantNextOK(t, api.Turn{L: l, At: 1}, d, l, n, api.Turn{L: l, At: 1}, d)
			wantNextOK(t, api.Turn{L: []int{5, n}}, d, l, n, api.Turn{L: []int{5, n}, At: 2}, d)
			wantNextOK(t, api.Turn{L: []int{n, 5}}, d, l, n, api.Turn{L: []int{n, 5}, At: 1}, d)
			wantNextOK(t, api.Turn{L: []int{n, 5}, At: 1}, d, l, n, api.Turn{L: l, At: 1}, d)
		}
	}
}

func TestNextOfTheMostNodes(t *testing.T) {
	l := upTo(64)
	// Each draw is the greatest that can be: all stay where they are.
	var stay []byte
	for m := 64; m >= 2; m-- {
		stay = append(stay, byte(m-1))
	}
	d := api.Dice{L: string(stay)}
	wantNextOK(t, api.Turn{}, d, l, 0, api.Turn{L: l, At: 1}, api.Dice{L: d.L, At: 63})
	wantNextOK(t, api.Turn{L: falling(64), At: 64}, d, l, 0, api.Turn{L: l, At: 1}, api.Dice{L: d.L, At: 63})
	wantNextOK(t, api.Turn{L: falling(64), At: 63}, d, l, 0, api.Turn{L: falling(64), At: 64}, d)
	// Without octets each one moves one place ahead.
	wantNextOK(t, api.Turn{}, api.Dice{}, l, 1, api.Turn{L: append(upTo(64)[1:], 0), At: 1}, api.Dice{})
	r := rand.New(rand.NewSource(seed))
	for range 200 {
		wantLikeSlow(t, drawnTurn(r, 64), drawnDice(r, 100), l)
		wantLikeSlow(t, api.Turn{L: r.Perm(64), At: 64}, drawnDice(r, 100), l)
	}
}

func TestNextOfDiceThatEnd(t *testing.T) {
	l := []int{0, 1, 2, 3}
	x := api.Turn{L: []int{3, 1}, At: 2}
	wantNextOK(t, x, api.Dice{}, l, 1, api.Turn{L: []int{1, 2, 3, 0}, At: 1}, api.Dice{})
	wantNextOK(t, x, api.Dice{L: "\x03\x02", At: 2}, l, 1, api.Turn{L: []int{1, 2, 3, 0}, At: 1}, api.Dice{L: "\x03\x02", At: 2})
	wantNextOK(t, x, api.Dice{L: "\x03"}, l, 1, api.Turn{L: []int{1, 2, 0, 3}, At: 1}, api.Dice{L: "\x03", At: 1})
	wantNextOK(t, x, api.Dice{L: "\x09\x03\x02", At: 1}, l, 1, api.Turn{L: []int{1, 0, 2, 3}, At: 1}, api.Dice{L: "\x09\x03\x02", At: 3})
	wantNextOK(t, x, api.Dice{L: "\x03\x02\x01"}, l, 0, api.Turn{L: l, At: 1}, api.Dice{L: "\x03\x02\x01", At: 3})
	// What is behind what was drawn is left.
	wantNextOK(t, x, api.Dice{L: "\x03\x02\x01\x07"}, l, 0, api.Turn{L: l, At: 1}, api.Dice{L: "\x03\x02\x01\x07", At: 3})
}

func TestNextOfNoNodes(t *testing.T) {
	for _, d := range someDice {
		for _, x := range turns(3) {
			wantRefused(t, x, d, nil, api.ErrNone)
			wantRefused(t, x, d, []int{}, api.ErrNone)
		}
		wantRefused(t, api.Turn{L: falling(64), At: 64}, d, nil, api.ErrNone)
		wantRefused(t, api.Turn{L: falling(64)}, d, upTo(3)[:0], api.ErrNone)
	}
}

func TestNextOfATurnThatMayNotBe(t *testing.T) {
	d := api.Dice{L: "\x02\x01\x00", At: 1}
	for _, x := range badTurns() {
		for _, l := range [][]int{nil, {0}, {63}, {1, 2, 3}, upTo(64)} {
			wantRefused(t, x, d, l, api.ErrArg)
		}
	}
	// What is wrong counts also where it is behind who is asked, or ahead of At.
	wantRefused(t, api.Turn{L: []int{1, 64}}, d, []int{1}, api.ErrArg)
	wantRefused(t, api.Turn{L: []int{1, 2, 1}}, d, []int{1}, api.ErrArg)
	wantRefused(t, api.Turn{L: []int{-1, 1}, At: 1}, d, []int{1}, api.ErrArg)
	wantRefused(t, api.Turn{L: []int{2, 2, 1}, At: 2}, d, []int{1}, api.ErrArg)
}

func TestNextOfNodesThatMayNotBe(t *testing.T) {
	d := api.Dice{L: "\x02\x01\x00", At: 1}
	for _, l := range badNodes() {
		for _, x := range []api.Turn{{}, {L: []int{0}}, {L: []int{1, 0}, At: 1}, {L: falling(64)}, {L: upTo(64), At: 64}} {
			wantRefused(t, x, d, l, api.ErrArg)
		}
	}
}

func TestNextOfDiceThatMayNotBe(t *testing.T) {
	for _, d := range badDice {
		// Also where no draw is asked for, by the turn, or as there is one node.
		for _, x := range []api.Turn{{}, {L: []int{1, 2}}, {L: []int{2, 1}, At: 1}, {L: []int{1, 2}, At: 2}, {L: upTo(64), At: 0}, {L: falling(64), At: 64}} {
			for _, l := range [][]int{{1}, {2}, {1, 2}, {0, 3}, upTo(64)} {
				wantRefused(t, x, d, l, api.ErrArg)
			}
		}
	}
}

func TestNextOfSeveralErrors(t *testing.T) {
	bad := []api.Turn{{At: 1}, {At: -1}, {L: []int{64}}, {L: []int{1, 1}}, {L: []int{1}, At: 2}}
	good := []api.Turn{{}, {L: []int{1}}, {L: []int{2, 1}, At: 2}}
	wrong := [][]int{{-1}, {64}, {2, 1}, {1, 1}, upTo(65)}
	for _, d := range badDice {
		for _, x := range append(bad, good...) {
			for _, l := range append(wrong, nil, []int{}, []int{1}) {
				wantRefused(t, x, d, l, api.ErrArg)
			}
		}
	}
	for _, d := range someDice {
		for _, x := range bad {
			// What may not be is told ahead of that there are no nodes.
			for _, l := range append(wrong, nil, []int{}) {
				wantRefused(t, x, d, l, api.ErrArg)
			}
		}
	}
}

func TestNextOfAllSmallOnes(t *testing.T) {
	all := subsets(4)
	for _, x := range turns(4) {
		for _, l := range all {
			for _, d := range someDice {
				if len(l) == 0 {
					wantRefused(t, x, d, l, api.ErrNone)
				} else {
					wantLikeSlow(t, x, d, l)
				}
			}
		}
	}
}

func TestNextOfWhatIsDrawn(t *testing.T) {
	r := rand.New(rand.NewSource(seed))
	for range 5000 {
		below := 1 + r.Intn(64)
		wantLikeSlow(t, drawnTurn(r, below), drawnDice(r, 80), drawnNodes(r, below))
	}
}

// P8.3

// wantEachAmong fails if one of the nodes is not among any so many of those who were asked, side by side.
func wantEachAmong(t *testing.T, l, was []int, many int) {
	t.Helper()
	for from := range len(was) - many + 1 {
		for _, n := range l {
			if !slices.Contains(was[from:from+many], n) {
				t.Errorf("of %v node %d is not asked among %v, from %d on", l, n, was[from:from+many], from)
			}
		}
	}
}

// wantWholeOrders fails if, from the first order on, not each node is asked just once in each.
func wantWholeOrders(t *testing.T, x api.Turn, l, was []int) {
	t.Helper()
	for _, n := range x.L[x.At:] {
		if slices.Contains(l, n) {
			was = was[1:]
		}
	}
	for len(was) >= len(l) {
		order := slices.Sorted(slices.Values(was[:len(l)]))
		if !slices.Equal(order, l) {
			t.Errorf("of %v are asked in one order %v", l, was[:len(l)])
		}
		was = was[len(l):]
	}
}

func TestEachIsAskedAmongSoMany(t *testing.T) {
	r := rand.New(rand.NewSource(seed))
	for range 300 {
		l := drawnNodes(r, 1+r.Intn(12))
		x, d := drawnTurn(r, 13), drawnDice(r, 60)
		was, _, _ := asked(x, d, l, 6*len(l))
		wantEachAmong(t, l, was, 2*len(l)-1)
		wantWholeOrders(t, x, l, was)
	}
	for range 10 {
		x, d := drawnTurn(r, 64), drawnDice(r, 400)
		for _, l := range [][]int{upTo(64), upTo(63), upTo(64)[1:], {0}, {63}, {0, 63}} {
			was, _, _ := asked(x, d, l, 4*len(l))
			wantEachAmong(t, l, was, 2*len(l)-1)
			wantWholeOrders(t, x, l, was)
		}
	}
}

func TestEachIsAskedByEachTurnAndAllDice(t *testing.T) {
	l := []int{0, 1, 3}
	for _, x := range turns(4) {
		// Two orders of three are drawn by these.
		for i := range 36 {
			d := api.Dice{L: string([]byte{byte(i % 3), byte(i / 3 % 2), byte(i / 6 % 3), byte(i / 18)})}
			was, _, _ := asked(x, d, l, 11)
			wantEachAmong(t, l, was, 5)
			wantWholeOrders(t, x, l, was)
		}
	}
}

func TestOneMayBeAskedFirstAndThenLast(t *testing.T) {
	// By these dice node 0 is the first of an order, and the last of the next one.
	l := []int{0, 1, 2}
	was, then, d := asked(api.Turn{}, api.Dice{L: "\x02\x01\x00\x00"}, l, 6)
	if !slices.Equal(was, []int{0, 1, 2, 1, 2, 0}) || d.At != 4 {
		t.Errorf("asked: %v, dice at %d", was, d.At)
	}
	wantSame(t, then, api.Turn{L: []int{1, 2, 0}, At: 3}, true)
}

func TestEachOrderComes(t *testing.T) {
	// By each draws another order, and by all of them each one.
	l := []int{2, 5, 6, 63}
	met := map[[4]int]bool{}
	for i := range 24 {
		d := api.Dice{L: string([]byte{byte(i % 4), byte(i / 4 % 3), byte(i / 12)})}
		was, _, then := asked(api.Turn{L: []int{2, 5}, At: 2}, d, l, 4)
		if then.At != 3 {
			t.Errorf("by %x the dice are at %d", d.L, then.At)
		}
		met[[4]int(was)] = true
	}
	if len(met) != 24 {
		t.Errorf("%d orders; want 24: %v", len(met), met)
	}
}

func TestANodeThatGoes(t *testing.T) {
	x := api.Turn{L: []int{4, 2, 7, 1}}
	all, d := []int{1, 2, 4, 7}, api.Dice{}
	n, x, d := nodeAfter(x, d, all)
	if n != 4 {
		t.Errorf("first: %d", n)
	}
	// Node 2 is gone: node 7 comes in its turn; node 2 is back: it is asked in the next order alone.
	n, x, d = nodeAfter(x, d, []int{1, 4, 7})
	if n != 7 {
		t.Errorf("without node 2: %d", n)
	}
	n, x, d = nodeAfter(x, d, all)
	if n != 1 {
		t.Errorf("with node 2 again: %d", n)
	}
	wantNextOK(t, x, d, all, 2, api.Turn{L: []int{2, 4, 7, 1}, At: 1}, d)
	wantNextOK(t, x, d, []int{1, 4, 7}, 4, api.Turn{L: []int{4, 7, 1}, At: 1}, d)
	// Who goes behind its turn, and comes ahead of it, misses nothing.
	x = api.Turn{L: []int{4, 2, 7, 1}, At: 1}
	_, x, d = nodeAfter(x, d, []int{2, 4, 7})
	wantNextOK(t, x, d, []int{1, 2, 4}, 1, api.Turn{L: []int{4, 2, 7, 1}, At: 4}, d)
}

func TestANodeThatComes(t *testing.T) {
	x, d := api.Turn{L: []int{4, 2, 7}, At: 1}, api.Dice{L: "\x03\x02\x01"}
	all := []int{1, 2, 4, 7}
	// Node 1 is in none of the turn: it is asked behind it.
	was, then, d := asked(x, d, all, 2)
	if !slices.Equal(was, []int{2, 7}) || d.At != 0 {
		t.Errorf("asked: %v, dice at %d", was, d.At)
	}
	wantNextOK(t, then, d, all, 1, api.Turn{L: all, At: 1}, api.Dice{L: d.L, At: 3})
}

func TestNodesThatGoAndCome(t *testing.T) {
	r := rand.New(rand.NewSource(seed))
	for range 300 {
		below := 2 + r.Intn(20)
		x, d := drawnTurn(r, below), drawnDice(r, 100)
		for range 60 {
			l := drawnNodes(r, below)
			wantLikeSlow(t, x, d, l)
			var n int
			n, x, d = nodeAfter(x, d, l)
			if !slices.Contains(l, n) {
				t.Errorf("asked is %d; want one of %v", n, l)
			}
			wantCheck(t, x, api.OK)
		}
	}
}

func TestANodeThatStaysIsAskedOnceInEachOrder(t *testing.T) {
	r := rand.New(rand.NewSource(seed))
	for range 300 {
		stays := r.Intn(8)
		x, d, times := api.Turn{}, drawnDice(r, 200), 0
		for i := range 80 {
			l := drawnNodes(r, 8)
			if at, there := slices.BinarySearch(l, stays); !there {
				l = with(l, at, stays)
			}
			n, then, dThen := nodeAfter(x, d, l)
			// A turn that begins again has asked for it just once in the former order.
			if i > 0 && then.At <= x.At {
				if times != 1 {
					t.Errorf("in %v node %d was asked %d times", x, stays, times)
				}
				times = 0
			}
			if n == stays {
				times++
			}
			x, d = then, dThen
		}
	}
}

func TestAskedIsOneOfTheNodes(t *testing.T) {
	r := rand.New(rand.NewSource(seed))
	for range 2000 {
		l := drawnNodes(r, 64)
		n, then, _ := nodeAfter(drawnTurn(r, 64), drawnDice(r, 100), l)
		if !slices.Contains(l, n) {
			t.Errorf("asked is %d; want one of %v", n, l)
		}
		if then.At < 1 || then.L[then.At-1] != n {
			t.Errorf("the turn %v does not stand behind %d", then, n)
		}
		wantCheck(t, then, api.OK)
	}
}

// R3, R4

// spoil changes a turn that was answered in each place, and in the room behind it.
func spoil(x api.Turn) {
	l := x.L[:cap(x.L)]
	for at := range l {
		l[at] = 77
	}
	_ = append(x.L, 78, 79)
}

func TestWhatIsHandedInStaysAsItWas(t *testing.T) {
	// Behind both there is room, that has something else.
	for n := range 5 {
		for at := -1; at <= n+1; at++ {
			for k := range 5 {
				turnRoom, nodesRoom := []int{5, 2, 9, 4, 70, 2}, []int{2, 4, 5, 63, 70, 2}
				wasTurn, wasNodes := slices.Clone(turnRoom), slices.Clone(nodesRoom)
				x, l := api.Turn{L: turnRoom[:n], At: at}, nodesRoom[:k]
				for _, d := range append(someDice, badDice...) {
					wasDice := d
					_, then, dThen, _ := Next(x, d, l)
					spoil(then)
					dThen.At = 99
					if x.At != at || d != wasDice {
						t.Errorf("Next changed its turn or dice: at %d, at %d", x.At, d.At)
					}
					wantStays(t, "what came of Next", turnRoom, wasTurn)
					wantStays(t, "what came of Next", nodesRoom, wasNodes)
				}
				Check(x)
				Nodes(l)
				Same(x, api.Turn{L: l, At: at})
				wantStays(t, "Check, Nodes, or Same,", turnRoom, wasTurn)
				wantStays(t, "Check, Nodes, or Same,", nodesRoom, wasNodes)
			}
		}
	}
}

func TestAnswersShareNothing(t *testing.T) {
	l := []int{2, 4, 5}
	for _, x := range []api.Turn{{}, {L: []int{5, 2, 4}}, {L: []int{5, 2, 4}, At: 2}, {L: []int{5, 2, 4}, At: 3}, {L: []int{9}, At: 0}, {L: []int{9, 9}}, {L: []int{4}, At: 2}} {
		for _, nodes := range [][]int{nil, l, {3}, {3, 3}} {
			for _, d := range append(someDice, badDice...) {
				_, first, _, _ := Next(x, d, nodes)
				n, second, dThen, e := Next(x, d, nodes)
				spoil(first)
				wantNext(t, x, d, nodes, n, second, dThen, e)
			}
		}
	}
}

func TestWhatIsHandedInMayBeChangedBehindTheCall(t *testing.T) {
	x, l, d := api.Turn{L: []int{5, 2, 4}}, []int{2, 4, 5}, api.Dice{L: "\x02\x01"}
	_, next := nextTurn(x, d, l)
	_, began := nextTurn(api.Turn{}, d, l)
	e, none := nextTurn(x, d, nil)
	if e != api.ErrNone {
		t.Errorf("Next of no nodes: %d", e)
	}
	bad := api.Turn{L: []int{5, 2, 5}, At: 1}
	e, refused := nextTurn(bad, d, l)
	if e != api.ErrArg {
		t.Errorf("Next of a turn that may not be: %d", e)
	}
	clear(x.L)
	clear(l)
	clear(bad.L)
	wantSame(t, next, api.Turn{L: []int{5, 2, 4}, At: 1}, true)
	wantSame(t, began, api.Turn{L: []int{2, 4, 5}, At: 1}, true)
	wantSame(t, none, api.Turn{L: []int{5, 2, 4}}, true)
	wantSame(t, refused, api.Turn{L: []int{5, 2, 5}, At: 1}, true)
}

// nextTurn is the turn that Next answers, and its error.
func nextTurn(x api.Turn, d api.Dice, l []int) (api.Errno, api.Turn) {
	_, then, _, e := Next(x, d, l)
	return e, then
}

func TestAnswersComeAgain(t *testing.T) {
	r := rand.New(rand.NewSource(seed))
	for range 1000 {
		x, d, l := drawnTurn(r, 64), drawnDice(r, 100), drawnNodes(r, 64)
		switch r.Intn(8) {
		case 0:
			x.At = len(x.L) + 1
		case 1:
			d.At = -1
		case 2:
			l = nil
		case 3:
			l = append(l, l[0])
		}
		o := drawnTurn(r, 64)
		wantCheck(t, x, Check(x))
		wantNodes(t, l, Nodes(l))
		wantSame(t, x, o, Same(x, o))
		n, then, dThen, e := Next(x, d, l)
		wantNext(t, x, d, l, n, then, dThen, e)
	}
}
