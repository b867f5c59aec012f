package plan

import (
	"math/rand"
	"slices"
	"testing"

	"tattle/api"
)

// P15.2: Diff

// wantDiffs fails if Diff does not answer what the slow model has, either way about; it answers how many tasks differ.
func wantDiffs(t *testing.T, a, b []api.Put) int {
	t.Helper()
	l, back := slowDiff(a, b), slowDiff(b, a)
	if len(l) > 100 {
		wantDiff(t, a, b, nil, api.ErrFull)
		wantDiff(t, b, a, nil, api.ErrFull)
	} else {
		wantDiff(t, a, b, l, api.OK)
		wantDiff(t, b, a, back, api.OK)
	}
	return len(l)
}

func TestDiffKnown(t *testing.T) {
	abd := []api.Put{{Task: "a", Node: 1}, {Task: "b", Node: 2}, {Task: "d", Node: 3}}
	for _, c := range []struct {
		a, b []api.Put
		want []api.Move
	}{
		{nil, nil, nil},
		{nil, abd, []api.Move{{Task: "a", From: -1, To: 1}, {Task: "b", From: -1, To: 2}, {Task: "d", From: -1, To: 3}}},
		{abd, nil, []api.Move{{Task: "a", From: 1, To: -1}, {Task: "b", From: 2, To: -1}, {Task: "d", From: 3, To: -1}}},
		{abd, abd, nil},
		// Both on another node, at the beginning, between, and at the end.
		{abd, but(abd, 0, api.Put{Task: "a", Node: 0}), []api.Move{{Task: "a", From: 1, To: 0}}},
		{abd, but(abd, 1, api.Put{Task: "b", Node: 63}), []api.Move{{Task: "b", From: 2, To: 63}}},
		{abd, but(abd, 2, api.Put{Task: "d", Node: 2}), []api.Move{{Task: "d", From: 3, To: 2}}},
		// One less, at the beginning, between, and at the end.
		{abd, without(abd, 0), []api.Move{{Task: "a", From: 1, To: -1}}},
		{abd, without(abd, 1), []api.Move{{Task: "b", From: 2, To: -1}}},
		{abd, without(abd, 2), []api.Move{{Task: "d", From: 3, To: -1}}},
		// One more, at the beginning, between, and at the end.
		{abd, with(abd, 0, api.Put{Task: "-", Node: 0}), []api.Move{{Task: "-", From: -1, To: 0}}},
		{abd, with(abd, 1, api.Put{Task: "aa", Node: 0}), []api.Move{{Task: "aa", From: -1, To: 0}}},
		{abd, with(abd, 2, api.Put{Task: "c", Node: 63}), []api.Move{{Task: "c", From: -1, To: 63}}},
		{abd, with(abd, 3, api.Put{Task: "e", Node: 3}), []api.Move{{Task: "e", From: -1, To: 3}}},
		// One for another one, at the same place.
		{abd, but(abd, 0, api.Put{Task: "aa", Node: 1}), []api.Move{{Task: "a", From: 1, To: -1}, {Task: "aa", From: -1, To: 1}}},
		{abd, but(abd, 1, api.Put{Task: "ab", Node: 2}), []api.Move{{Task: "ab", From: -1, To: 2}, {Task: "b", From: 2, To: -1}}},
		{abd, but(abd, 2, api.Put{Task: "c", Node: 3}), []api.Move{{Task: "c", From: -1, To: 3}, {Task: "d", From: 3, To: -1}}},
		// Of each kind one, and others, that have nothing in common.
		{abd, []api.Put{{Task: "b", Node: 4}, {Task: "c", Node: 0}, {Task: "d", Node: 3}}, []api.Move{{Task: "a", From: 1, To: -1}, {Task: "b", From: 2, To: 4}, {Task: "c", From: -1, To: 0}}},
		{abd, []api.Put{{Task: "x", Node: 1}, {Task: "y", Node: 2}}, []api.Move{{Task: "a", From: 1, To: -1}, {Task: "b", From: 2, To: -1}, {Task: "d", From: 3, To: -1}, {Task: "x", From: -1, To: 1}, {Task: "y", From: -1, To: 2}}},
		{abd, []api.Put{{Task: "0", Node: 1}, {Task: "1", Node: 2}}, []api.Move{{Task: "0", From: -1, To: 1}, {Task: "1", From: -1, To: 2}, {Task: "a", From: 1, To: -1}, {Task: "b", From: 2, To: -1}, {Task: "d", From: 3, To: -1}}},
		// A node's number of 0 is not none.
		{[]api.Put{{Task: "a"}}, nil, []api.Move{{Task: "a", From: 0, To: -1}}},
		{nil, []api.Put{{Task: "a"}}, []api.Move{{Task: "a", From: -1, To: 0}}},
	} {
		wantDiff(t, c.a, c.b, c.want, api.OK)
		wantDiffs(t, c.a, c.b)
	}
}

func TestDiffOfNothing(t *testing.T) {
	empty := [][]api.Put{nil, {}, placed(row(5))[:0]}
	for _, a := range empty {
		for _, b := range empty {
			wantDiff(t, a, b, nil, api.OK)
		}
		for _, l := range goodTasks() {
			wantDiffs(t, a, placed(l))
			wantDiffs(t, a, all(l, 0))
		}
	}
}

func TestDiffOfTheSame(t *testing.T) {
	for _, l := range goodTasks() {
		wantDiff(t, placed(l), placed(l), nil, api.OK)
		for _, n := range []int{0, 1, 63} {
			wantDiff(t, all(l, n), all(l, n), nil, api.OK)
		}
	}
}

func TestDiffOfOneTask(t *testing.T) {
	for n := range 64 {
		for m := range 64 {
			wantDiffs(t, []api.Put{{Task: "a", Node: n}}, []api.Put{{Task: "a", Node: m}})
			wantDiffs(t, []api.Put{{Task: "a", Node: n}}, []api.Put{{Task: "b", Node: m}})
		}
	}
}

func TestDiffOfEachWithEach(t *testing.T) {
	many := 0
	for _, x := range goodTasks() {
		for _, y := range goodTasks() {
			many = max(many, wantDiffs(t, placed(x), placed(y)), wantDiffs(t, all(x, 0), all(y, 0)), wantDiffs(t, all(x, 0), all(y, 63)))
		}
	}
	if many < 101 {
		t.Errorf("at most %d tasks differ", many)
	}
}

func TestDiffInOneTask(t *testing.T) {
	for _, size := range []int{1, 2, 3, 50, 99, 100} {
		a := placed(row(size))
		for at, p := range a {
			wantDiff(t, a, without(a, at), []api.Move{{Task: p.Task, From: p.Node, To: -1}}, api.OK)
			wantDiff(t, without(a, at), a, []api.Move{{Task: p.Task, From: -1, To: p.Node}}, api.OK)
			n := (p.Node + 1 + at) % 64
			if n == p.Node {
				n = (n + 1) % 64
			}
			wantDiff(t, a, but(a, at, api.Put{Task: p.Task, Node: n}), []api.Move{{Task: p.Task, From: p.Node, To: n}}, api.OK)
			// Its name is another one, that stands ahead, or behind.
			wantDiff(t, a, but(a, at, api.Put{Task: p.Task + "z", Node: p.Node}), []api.Move{{Task: p.Task, From: p.Node, To: -1}, {Task: p.Task + "z", From: -1, To: p.Node}}, api.OK)
			wantDiff(t, but(a, at, api.Put{Task: p.Task + "z", Node: p.Node}), a, []api.Move{{Task: p.Task, From: -1, To: p.Node}, {Task: p.Task + "z", From: p.Node, To: -1}}, api.OK)
		}
	}
}

// wantMost fails if it is not so that just so many tasks differ, and that one more is too many.
func wantMost(t *testing.T, a, b []api.Put) {
	t.Helper()
	if n := wantDiffs(t, a, b); n != 100 {
		t.Errorf("%d tasks differ", n)
	}
}

func wantTooMany(t *testing.T, a, b []api.Put, many int) {
	t.Helper()
	if n := wantDiffs(t, a, b); n != many {
		t.Errorf("%d tasks differ; want %d", n, many)
	}
	wantDiff(t, a, b, nil, api.ErrFull)
	wantDiff(t, b, a, nil, api.ErrFull)
}

func TestDiffInJustAsManyAsMayBe(t *testing.T) {
	l := row(200)[:100:100]
	rest := row(200)[100:]
	wantMost(t, all(l, 1), nil)
	wantMost(t, all(l, 1), all(l, 2))
	for n := range 101 {
		// The one's alone, and the other one's alone, behind one another.
		wantMost(t, all(l[:n], 1), all(rest[:100-n], 2))
		// On another node, and in the one alone.
		wantMost(t, all(l, 1), all(l[n:], 2))
		// The same, and on another node, and as many in each alone as the same ones.
		same := all(l[:n/2], 5)
		wantMost(t, slices.Concat(same, all(l[n/2:], 1)), slices.Concat(same, all(l[n/2:100-n/2], 2), all(rest[:n/2], 5)))
	}
}

func TestDiffInOneMore(t *testing.T) {
	l := row(200)[:100:100]
	rest := row(200)[100:]
	for n := 1; n <= 100; n++ {
		wantTooMany(t, all(l[:n], 1), all(rest[:101-n], 1), 101)
		wantTooMany(t, all(l, 1), all(rest[:n], 1), 100+n)
		// All on another node, but one that has another name: ahead of all, between, and behind all.
		wantTooMany(t, all(l, 1), but(all(l, 2), n-1, api.Put{Task: l[n-1] + "-", Node: 1}), 101)
	}
	wantTooMany(t, all(l, 1), []api.Put{{Task: "-", Node: 1}}, 101)
	wantTooMany(t, all(l, 1), []api.Put{{Task: "z", Node: 1}}, 101)
	wantTooMany(t, all(l, 1), all(rest, 1), 200)
}

func TestDiffOfWhatMayNotBe(t *testing.T) {
	good := [][]api.Put{nil, {}, {{Task: "a", Node: 5}}, placed(row(3)), placed(row(100)), all(row(200)[100:], 3)}
	for _, bad := range badPuts() {
		for _, l := range good {
			wantDiff(t, bad, l, nil, api.ErrArg)
			wantDiff(t, l, bad, nil, api.ErrArg)
		}
		wantDiff(t, bad, bad, nil, api.ErrArg)
		wantDiff(t, bad, make([]api.Put, 101), nil, api.ErrArg)
		wantDiff(t, make([]api.Put, 101), bad, nil, api.ErrArg)
	}
}

func TestDiffOfWhatIsDrawn(t *testing.T) {
	r := rand.New(rand.NewSource(seed))
	met := map[int]int{}
	for range 4000 {
		l := drawnTasks(r, 150)
		met[min(wantDiffs(t, drawnPuts(r, l, 1+r.Intn(3)), drawnPuts(r, l, 1+r.Intn(64))), 101)/50]++
	}
	for kind := range 3 {
		if met[kind] < 200 {
			t.Errorf("drawn: %v", met)
		}
	}
}
