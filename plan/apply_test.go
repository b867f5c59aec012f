package plan

import (
	"math/rand"
	"slices"
	"testing"

	"tattle/api"
)

// P15.3: Apply

// wantApplies fails if Apply does not answer what the slow model has; it answers the error.
func wantApplies(t *testing.T, a []api.Put, l []api.Move) api.Errno {
	t.Helper()
	then, e := slowApply(a, l)
	wantApply(t, a, l, then, e)
	return e
}

func TestApplyKnown(t *testing.T) {
	abd := []api.Put{{Task: "a", Node: 1}, {Task: "b", Node: 2}, {Task: "d", Node: 3}}
	for _, c := range []struct {
		a    []api.Put
		l    []api.Move
		want []api.Put
	}{
		{nil, nil, nil},
		{abd, nil, abd},
		{nil, []api.Move{{Task: "a", From: -1, To: 0}, {Task: "b", From: -1, To: 63}}, []api.Put{{Task: "a", Node: 0}, {Task: "b", Node: 63}}},
		{abd, []api.Move{{Task: "a", From: 1, To: -1}, {Task: "b", From: 2, To: -1}, {Task: "d", From: 3, To: -1}}, nil},
		// To another node, at the beginning, between, and at the end.
		{abd, []api.Move{{Task: "a", From: 1, To: 0}}, but(abd, 0, api.Put{Task: "a", Node: 0})},
		{abd, []api.Move{{Task: "b", From: 2, To: 63}}, but(abd, 1, api.Put{Task: "b", Node: 63})},
		{abd, []api.Move{{Task: "d", From: 3, To: 2}}, but(abd, 2, api.Put{Task: "d", Node: 2})},
		// To none, at the beginning, between, and at the end.
		{abd, []api.Move{{Task: "a", From: 1, To: -1}}, without(abd, 0)},
		{abd, []api.Move{{Task: "b", From: 2, To: -1}}, without(abd, 1)},
		{abd, []api.Move{{Task: "d", From: 3, To: -1}}, without(abd, 2)},
		// From none, at the beginning, between, and at the end.
		{abd, []api.Move{{Task: "-", From: -1, To: 0}}, with(abd, 0, api.Put{Task: "-", Node: 0})},
		{abd, []api.Move{{Task: "aa", From: -1, To: 0}}, with(abd, 1, api.Put{Task: "aa", Node: 0})},
		{abd, []api.Move{{Task: "c", From: -1, To: 63}}, with(abd, 2, api.Put{Task: "c", Node: 63})},
		{abd, []api.Move{{Task: "e", From: -1, To: 3}}, with(abd, 3, api.Put{Task: "e", Node: 3})},
		// Of each kind one.
		{abd, []api.Move{{Task: "a", From: 1, To: -1}, {Task: "b", From: 2, To: 4}, {Task: "c", From: -1, To: 0}}, []api.Put{{Task: "b", Node: 4}, {Task: "c", Node: 0}, {Task: "d", Node: 3}}},
		// One task is moved to where another one is moved from.
		{abd, []api.Move{{Task: "a", From: 1, To: 2}, {Task: "b", From: 2, To: 1}}, []api.Put{{Task: "a", Node: 2}, {Task: "b", Node: 1}, {Task: "d", Node: 3}}},
	} {
		wantApply(t, c.a, c.l, c.want, api.OK)
		wantApplies(t, c.a, c.l)
	}
}

func TestApplyOfNoMoves(t *testing.T) {
	for _, l := range goodTasks() {
		for _, none := range [][]api.Move{nil, {}, moved(row(5))[:0]} {
			wantApply(t, placed(l), none, placed(l), api.OK)
			wantApply(t, all(l, 0), none, all(l, 0), api.OK)
		}
	}
}

func TestApplyToNothing(t *testing.T) {
	for _, l := range goodTasks() {
		for _, nothing := range [][]api.Put{nil, {}, placed(row(5))[:0]} {
			wantApply(t, nothing, each(l, -1, 7), all(l, 7), api.OK)
			if len(l) > 0 {
				wantApply(t, nothing, each(l, 0, 7), nil, api.ErrStale)
				wantApply(t, nothing, each(l, 0, -1), nil, api.ErrStale)
			}
		}
	}
}

func TestApplyOfEachMoveToOneTask(t *testing.T) {
	// A task that is on a node, or nowhere, is moved from each node, or from none, to each node, or to none.
	for _, at := range goodNumbers {
		var a []api.Put
		if at >= 0 {
			a = []api.Put{{Task: "m", Node: at}}
		}
		beside := []api.Put{{Task: "b", Node: 9}, {Task: "z", Node: 9}}
		among := slices.Insert(slices.Clone(beside), 1, a...)
		for from := -1; from < 64; from++ {
			for to := -1; to < 64; to++ {
				if from == to {
					continue
				}
				l := []api.Move{{Task: "m", From: from, To: to}}
				if from != at {
					wantApply(t, a, l, nil, api.ErrStale)
					wantApply(t, among, l, nil, api.ErrStale)
					continue
				}
				var want []api.Put
				if to >= 0 {
					want = []api.Put{{Task: "m", Node: to}}
				}
				wantApply(t, a, l, want, api.OK)
				wantApply(t, among, l, slices.Insert(slices.Clone(beside), 1, want...), api.OK)
			}
		}
	}
}

func TestApplyAtEachPlace(t *testing.T) {
	for _, size := range []int{1, 2, 3, 50, 99, 100} {
		a := all(row(size), 5)
		for at, p := range a {
			wantApply(t, a, []api.Move{{Task: p.Task, From: 5, To: 6}}, but(a, at, api.Put{Task: p.Task, Node: 6}), api.OK)
			wantApply(t, a, []api.Move{{Task: p.Task, From: 5, To: -1}}, without(a, at), api.OK)
			for _, from := range []int{-1, 0, 4, 6, 63} {
				wantApply(t, a, []api.Move{{Task: p.Task, From: from, To: 5}}, nil, api.ErrStale)
				wantApply(t, a, []api.Move{{Task: p.Task, From: from, To: 7}}, nil, api.ErrStale)
			}
			more := api.Put{Task: p.Task + "z", Node: 0}
			wantApply(t, a, []api.Move{{Task: more.Task, From: 5, To: 0}}, nil, api.ErrStale)
			wantApply(t, a, []api.Move{{Task: more.Task, From: 5, To: -1}}, nil, api.ErrStale)
			if size < 100 {
				wantApply(t, a, []api.Move{{Task: more.Task, From: -1, To: 0}}, with(a, at+1, more), api.OK)
			} else {
				wantApply(t, a, []api.Move{{Task: more.Task, From: -1, To: 0}}, nil, api.ErrFull)
			}
			// Of all that are moved, one alone is not where it is moved from.
			for _, from := range []int{-1, 0, 4, 6, 63} {
				l := each(row(size), 5, 8)
				l[at].From = from
				wantApply(t, a, l, nil, api.ErrStale)
				l = each(row(size), 5, -1)
				if from >= 0 {
					l[at].From = from
					wantApply(t, a, l, nil, api.ErrStale)
				}
			}
			wantApply(t, without(a, at), each(row(size), 5, 8), nil, api.ErrStale)
			// Of all that are moved from none, one alone is nowhere.
			if size > 1 {
				wantApply(t, without(a, at), each(row(size), -1, 8), nil, api.ErrStale)
			}
		}
	}
}

func TestApplyOfMovesThatMeetNothing(t *testing.T) {
	a := []api.Put{{Task: "b", Node: 1}, {Task: "bb", Node: 1}, {Task: "d", Node: 1}}
	// Ahead of all, between, and behind all; what begins one, and what one begins.
	for _, task := range []string{"a", "-", "0", "b-", "b0", "ba", "bbb", "bb-", "bc", "c", "d-", "da", "e", "z"} {
		wantApply(t, a, []api.Move{{Task: task, From: 1, To: 2}}, nil, api.ErrStale)
		wantApply(t, a, []api.Move{{Task: task, From: 1, To: -1}}, nil, api.ErrStale)
		wantApply(t, a, []api.Move{{Task: task, From: 0, To: 1}}, nil, api.ErrStale)
		then := append(slices.Clone(a), api.Put{Task: task, Node: 1})
		slices.SortFunc(then, func(p, q api.Put) int {
			if slowAhead(p.Task, q.Task) {
				return -1
			}
			return 1
		})
		wantApply(t, a, []api.Move{{Task: task, From: -1, To: 1}}, then, api.OK)
	}
}

func TestApplySoThatJustAsManyArePutAsMayBe(t *testing.T) {
	l, rest := row(200)[:100:100], row(200)[100:]
	wantApply(t, all(l, 1), each(l, 1, 2), all(l, 2), api.OK)
	wantApply(t, nil, each(l, -1, 2), all(l, 2), api.OK)
	wantApply(t, all(l, 1), each(l, 1, -1), nil, api.OK)
	for n := range 101 {
		// As many come, behind all, and ahead of all, as there is room for.
		wantApply(t, all(l[:n], 1), each(rest[:100-n], -1, 2), slices.Concat(all(l[:n], 1), all(rest[:100-n], 2)), api.OK)
		wantApply(t, all(rest[:n], 1), each(l[:100-n], -1, 2), slices.Concat(all(l[:100-n], 2), all(rest[:n], 1)), api.OK)
	}
	for n := range 51 {
		// As many come as go: those that go stand ahead, and behind.
		wantApply(t, all(l, 1), slices.Concat(each(l[:n], 1, -1), each(rest[:n], -1, 2)), slices.Concat(all(l[n:], 1), all(rest[:n], 2)), api.OK)
		wantApply(t, all(rest, 1), slices.Concat(each(l[:n], -1, 2), each(rest[:n], 1, -1)), slices.Concat(all(l[:n], 2), all(rest[n:], 1)), api.OK)
	}
}

func TestApplySoThatOneMoreIsPut(t *testing.T) {
	l, rest := row(200)[:100:100], row(200)[100:]
	for n := 1; n <= 100; n++ {
		wantApply(t, all(l[:n], 1), each(rest[:101-n], -1, 2), nil, api.ErrFull)
		wantApply(t, all(rest[:n], 1), each(l[:101-n], -1, 2), nil, api.ErrFull)
		wantApply(t, all(l, 1), each(rest[:n], -1, 2), nil, api.ErrFull)
		// One comes: ahead of all, between, and behind all.
		wantApply(t, all(l, 1), []api.Move{{Task: l[n-1] + "-", From: -1, To: 1}}, nil, api.ErrFull)
	}
	wantApply(t, all(l, 1), []api.Move{{Task: "-", From: -1, To: 1}}, nil, api.ErrFull)
	for n := 1; n < 50; n++ {
		wantApply(t, all(l, 1), slices.Concat(each(l[:n], 1, -1), each(rest[:n+1], -1, 2)), nil, api.ErrFull)
		wantApply(t, all(rest, 1), slices.Concat(each(l[:n+1], -1, 2), each(rest[:n], 1, -1)), nil, api.ErrFull)
	}
}

func TestApplyOfWhatMayNotBe(t *testing.T) {
	moves := [][]api.Move{
		nil, {}, moved(row(3)), each(row(100), -1, 5),
		{{Task: "none", From: 1, To: 2}},
		{{Task: "0000-x", From: 0, To: 0}},
		make([]api.Move, 101),
	}
	for _, bad := range badPuts() {
		for _, l := range moves {
			wantApply(t, bad, l, nil, api.ErrArg)
		}
	}
	puts := [][]api.Put{
		nil, {}, placed(row(3)), all(row(100), 5), all(row(200)[100:], 5),
		{{Task: "a", Node: 64}},
		make([]api.Put, 101),
	}
	for _, bad := range badMoves() {
		for _, a := range puts {
			wantApply(t, a, bad, nil, api.ErrArg)
		}
	}
}

func TestApplyRefusesFirstWhatComesFirst(t *testing.T) {
	a, rest := all(row(200)[:100], 1), row(200)[100:]
	stale := api.Move{Task: "0050-x", From: 2, To: 3}
	come := each(rest[:1], -1, 2)
	// Moves that may not be, ahead of ErrStale and ErrFull.
	for _, bad := range []api.Move{{Task: "", From: 1, To: 2}, {Task: "-A", From: 1, To: 2}, {Task: "-", From: 1, To: 64}, {Task: "-", From: -2, To: 1}, {Task: "-", From: 3, To: 3}, {Task: "-", From: -1, To: -1}} {
		wantApply(t, a, []api.Move{bad, stale}, nil, api.ErrArg)
		wantApply(t, a, append([]api.Move{bad}, come...), nil, api.ErrArg)
		bad.Task += "z-Z"
		wantApply(t, a, []api.Move{stale, bad}, nil, api.ErrArg)
		wantApply(t, a, append(slices.Clone(come), bad), nil, api.ErrArg)
		wantApply(t, a, append(append([]api.Move{stale}, come...), bad), nil, api.ErrArg)
	}
	// More moves than may be, that are also stale, or too much.
	wantApply(t, a, each(row(101), 2, 3), nil, api.ErrArg)
	wantApply(t, nil, each(row(101), -1, 3), nil, api.ErrArg)
	// What is put may not be, and the moves are stale, or too much.
	wantApply(t, with(a, 100, api.Put{Task: "z", Node: 1}), []api.Move{stale}, nil, api.ErrArg)
	wantApply(t, with(a, 100, api.Put{Task: "z", Node: 1}), come, nil, api.ErrArg)
	wantApply(t, with(a, 100, api.Put{Task: "z", Node: 1}), []api.Move{{Task: "z", From: 1, To: -1}}, nil, api.ErrArg)
	wantApply(t, but(a, 50, api.Put{Task: "0050-x", Node: 64}), []api.Move{stale}, nil, api.ErrArg)
	wantApply(t, but(a, 50, api.Put{Task: "0050-x", Node: -1}), []api.Move{{Task: "0050-x", From: -1, To: 2}}, nil, api.ErrArg)
	// ErrStale ahead of ErrFull: what is stale stands ahead of what is too much, and behind it.
	wantApply(t, a, append([]api.Move{stale}, come...), nil, api.ErrStale)
	wantApply(t, a, append([]api.Move{{Task: "-", From: -1, To: 1}}, stale), nil, api.ErrStale)
	wantApply(t, a, []api.Move{{Task: "-", From: -1, To: 1}, {Task: "z", From: 1, To: 2}}, nil, api.ErrStale)
	wantApply(t, a, append(slices.Clone(come), api.Move{Task: "z", From: 1, To: -1}), nil, api.ErrStale)
	wantApply(t, a, append(each(rest[:99], -1, 2), api.Move{Task: "z", From: 1, To: -1}), nil, api.ErrStale)
	wantApply(t, a, append(slices.Clone(come), api.Move{Task: "z", From: 1, To: 2}), nil, api.ErrStale)
}

func TestApplyOfWhatIsDrawn(t *testing.T) {
	r := rand.New(rand.NewSource(seed))
	met := map[api.Errno]int{}
	for range 8000 {
		l := drawnTasks(r, 150)
		a := drawnPuts(r, l, 1+r.Intn(64))
		moves := slowDiff(a, drawnPuts(r, l, 1+r.Intn(64)))
		if r.Intn(3) == 0 {
			moves = slowDiff(a, slices.Concat(a, all([]string{"zzzzzzzzzzzzzzzzzzzz"}, 5), placed(l)))
		}
		moves = moves[:min(len(moves), 100)]
		if len(moves) > 0 {
			switch m := &moves[r.Intn(len(moves))]; r.Intn(6) {
			case 0:
				m.From = r.Intn(65) - 1
			case 1:
				m.To = r.Intn(80) - 10
			}
		}
		met[wantApplies(t, a, moves)]++
	}
	for _, e := range []api.Errno{api.OK, api.ErrArg, api.ErrStale, api.ErrFull} {
		if met[e] < 100 {
			t.Errorf("drawn: %v", met)
		}
	}
}
