package load

import (
	"math/rand"
	"slices"
	"strings"
	"testing"

	"tattle/api"
)

// P14.2: Assign

func TestAssignKnown(t *testing.T) {
	for _, c := range []struct {
		nodes []int
		spots int
		want  []api.Put
	}{
		{[]int{4, 10, 33}, 2, []api.Put{{Task: "backup", Node: 10}, {Task: "index", Node: 10}, {Task: "mail", Node: 4}, {Task: "report", Node: 4}}},
		{[]int{1, 2, 5}, 3, []api.Put{{Task: "a", Node: 5}, {Task: "b", Node: 5}, {Task: "c", Node: 5}, {Task: "d", Node: 5}, {Task: "e", Node: 1}, {Task: "f", Node: 1}, {Task: "g", Node: 1}, {Task: "h", Node: 1}}},
		{[]int{3, 12}, 2, []api.Put{{Task: "a", Node: 12}, {Task: "b", Node: 12}, {Task: "c", Node: 12}, {Task: "d", Node: 3}}},
		{[]int{0, 63}, 1, []api.Put{{Task: "a", Node: 63}, {Task: "b", Node: 63}}},
		// Both d and e pass node 4, which is full, and e passes node 1 as well.
		{[]int{1, 2, 3, 4}, 1, []api.Put{{Task: "a", Node: 4}, {Task: "b", Node: 4}, {Task: "c", Node: 1}, {Task: "d", Node: 1}, {Task: "e", Node: 3}}},
	} {
		var l []string
		for _, p := range c.want {
			l = append(l, p.Task)
		}
		wantAssign(t, c.nodes, c.spots, l, c.want, api.OK)
		wantLikeSlow(t, c.nodes, c.spots, l)
	}
}

func TestAssignOnNodesThatMayNotBe(t *testing.T) {
	for _, nodes := range badNodes() {
		for _, l := range [][]string{nil, {"a"}, row(100), {"b", "a"}, row(101)} {
			wantAssign(t, nodes, 1, l, nil, api.ErrArg)
			wantAssign(t, nodes, 32, l, nil, api.ErrArg)
		}
	}
}

func TestAssignBySpotsThatMayNotBe(t *testing.T) {
	for _, spots := range badSpots {
		for _, l := range [][]string{nil, {"a"}, row(100), {"b", "a"}, row(101)} {
			for _, nodes := range goodNodes() {
				wantAssign(t, nodes, spots, l, nil, api.ErrArg)
			}
			// Ahead of ErrNone, and beside nodes that may not be.
			wantAssign(t, nil, spots, l, nil, api.ErrArg)
			wantAssign(t, []int{}, spots, l, nil, api.ErrArg)
			wantAssign(t, []int{64}, spots, l, nil, api.ErrArg)
			wantAssign(t, []int{1, 1}, spots, l, nil, api.ErrArg)
		}
	}
}

func TestAssignOfTasksThatMayNotBe(t *testing.T) {
	for _, l := range badTasks() {
		wantAssign(t, []int{3}, 1, l, nil, api.ErrArg)
		wantAssign(t, []int{3, 12}, 2, l, nil, api.ErrArg)
		// Ahead of ErrNone.
		wantAssign(t, nil, 1, l, nil, api.ErrArg)
		wantAssign(t, []int{}, 32, l, nil, api.ErrArg)
	}
	wantAssign(t, upTo(64), 32, row(101), nil, api.ErrArg)
}

func TestAssignOnNone(t *testing.T) {
	for _, l := range goodTasks() {
		for _, spots := range []int{1, 2, 31, 32} {
			wantAssign(t, nil, spots, l, nil, api.ErrNone)
			wantAssign(t, []int{}, spots, l, nil, api.ErrNone)
			wantAssign(t, upTo(5)[:0], spots, l, nil, api.ErrNone)
		}
	}
}

func TestAssignOfNone(t *testing.T) {
	for _, nodes := range goodNodes() {
		for _, spots := range []int{1, 2, 31, 32} {
			wantAssign(t, nodes, spots, nil, nil, api.OK)
			wantAssign(t, nodes, spots, []string{}, nil, api.OK)
			wantAssign(t, nodes, spots, row(5)[:0], nil, api.OK)
		}
	}
}

func TestAssignOfOne(t *testing.T) {
	for _, nodes := range goodNodes() {
		for _, spots := range []int{1, 2, 31, 32} {
			points := slowRing(nodes, spots)
			for _, task := range []string{"a", "z", "0", "-", "mail", "job-1", strings.Repeat("z", 20), strings.Repeat("-", 20)} {
				// Nobody is full: it is put on the first one of its walk.
				wantAssign(t, nodes, spots, []string{task}, []api.Put{{Task: task, Node: slowWalk(points, task)[0]}}, api.OK)
			}
		}
	}
}

func TestAssignOnOne(t *testing.T) {
	for n := range 64 {
		for _, l := range goodTasks() {
			var want []api.Put
			for _, task := range l {
				want = append(want, api.Put{Task: task, Node: n})
			}
			wantAssign(t, []int{n}, 1+n%32, l, want, api.OK)
		}
	}
}

func TestAssignLikeSlow(t *testing.T) {
	passed := 0
	for _, nodes := range goodNodes() {
		for _, spots := range []int{1, 2, 11, 31, 32} {
			for _, l := range goodTasks() {
				passed = max(passed, slices.Max(append(wantLikeSlow(t, nodes, spots, l), 0)))
			}
		}
	}
	if passed < 10 {
		t.Errorf("no task passes more than %d nodes", passed)
	}
}

func TestAssignOfWhatIsDrawn(t *testing.T) {
	r := rand.New(rand.NewSource(seed))
	met := map[int]int{}
	for range 1500 {
		nodes := drawnNodes(r, 1+r.Intn(64))
		for _, n := range wantLikeSlow(t, nodes, 1+r.Intn(32), drawnTasks(r, r.Intn(101))) {
			met[min(n, 3)]++
		}
	}
	for n := range 4 {
		if met[n] < 500 {
			t.Errorf("%d full nodes are passed only %d times", n, met[n])
		}
	}
}

func TestAssignPassesTheFull(t *testing.T) {
	nodes := upTo(8)
	points := slowRing(nodes, 4)
	// Of many names those are taken whose walk is the same: one node after the other one along it comes to be full.
	walk := slowWalk(points, "a")
	var l []string
	r := rand.New(rand.NewSource(seed))
	for len(l) < 32 {
		if task := drawnName(r); slices.Equal(slowWalk(points, task), walk) && !slices.Contains(l, task) {
			l = append(l, task)
		}
	}
	slices.Sort(l)
	var want []api.Put
	for at, task := range l {
		// Of 32 tasks on 8 nodes the bound is 5.
		want = append(want, api.Put{Task: task, Node: walk[at/5]})
	}
	wantAssign(t, nodes, 4, l, want, api.OK)
	// Of one task less it is as much: of 155 by 32.
	wantAssign(t, nodes, 4, l[:31], want[:31], api.OK)
	// Of 25 it is 4: of 125 by 32.
	for at := range want {
		want[at].Node = walk[min(at/4, 7)]
	}
	wantAssign(t, nodes, 4, l[:25], want[:25], api.OK)
}

// P14.3

// wantFollows fails if what is put is not as the chapter says that it follows.
func wantFollows(t *testing.T, nodes []int, spots int, l []string) {
	t.Helper()
	puts, e := Assign(nodes, spots, l)
	if e != api.OK || Check(puts) != api.OK || len(puts) != len(l) {
		t.Fatalf("Assign(%v, %d, %q): %v, %d", few(nodes), spots, few(l), few(puts), e)
	}
	points := slowRing(nodes, spots)
	most := slowBound(len(l), len(nodes))
	if bound, e := Bound(len(l), len(nodes)); bound != most || e != api.OK {
		t.Errorf("Bound(%d, %d): %d, %d; want %d", len(l), len(nodes), bound, e, most)
	}
	sum := 0
	for _, n := range nodes {
		has := slowHas(puts, n)
		sum += has
		if has > most {
			t.Errorf("Assign(%v, %d, %q): %d has %d; the bound is %d", few(nodes), spots, few(l), n, has, most)
		}
	}
	if sum != len(l) {
		t.Errorf("Assign(%v, %d, %q): the nodes have %d of %d", few(nodes), spots, few(l), sum, len(l))
	}
	for at, task := range l {
		if puts[at].Task != task {
			t.Errorf("Assign(%v, %d, %q) has %q at %d", few(nodes), spots, few(l), puts[at].Task, at)
		}
		wantOf(t, puts, task, puts[at].Node, api.OK)
		for _, n := range slowWalk(points, task) {
			if n == puts[at].Node {
				break
			}
			if has := slowHas(puts, n); has != most {
				t.Errorf("Assign(%v, %d, %q): %d comes ahead of %q's own, and has %d of %d", few(nodes), spots, few(l), n, task, has, most)
			}
		}
	}
}

func TestWhatFollows(t *testing.T) {
	for _, nodes := range goodNodes() {
		for _, spots := range []int{1, 3, 32} {
			for _, l := range goodTasks() {
				wantFollows(t, nodes, spots, l)
			}
		}
	}
}

func TestWhatFollowsOfEachCount(t *testing.T) {
	r := rand.New(rand.NewSource(seed))
	for tasks := range 101 {
		for _, n := range []int{1, 2, 3, 4, 5, 1 + r.Intn(64), 63, 64} {
			wantFollows(t, upTo(n), 1+r.Intn(3), row(tasks))
		}
	}
}

func TestWhatFollowsOfWhatIsDrawn(t *testing.T) {
	r := rand.New(rand.NewSource(seed))
	for range 400 {
		wantFollows(t, drawnNodes(r, 1+r.Intn(64)), 1+r.Intn(32), drawnTasks(r, 100))
	}
}

// R3, R4

func TestWhatIsHandedInStaysAsItWas(t *testing.T) {
	// Behind all there is room, that has something else.
	nodesRoom := []int{2, 4, 9, 33, 63, 70, 2}
	tasksRoom := []string{"a", "b", "c", "d", "e", "", "A"}
	putsRoom := append(placed(row(5)), api.Put{Task: "A", Node: 64}, api.Put{Node: -1})
	wasNodes, wasTasks, wasPuts := slices.Clone(nodesRoom), slices.Clone(tasksRoom), slices.Clone(putsRoom)
	for n := range 8 {
		for m := range 8 {
			for _, spots := range []int{0, 1, 32, 33} {
				puts, _ := Assign(nodesRoom[:n], spots, tasksRoom[:m])
				spoil(puts)
			}
		}
		Tasks(tasksRoom[:n])
		Check(putsRoom[:n])
		Of(putsRoom[:n], "0002-x")
		Of(putsRoom[:n], "none")
	}
	wantStays(t, "what came of Assign", nodesRoom, wasNodes)
	wantStays(t, "what came of Assign, or Tasks,", tasksRoom, wasTasks)
	wantStays(t, "Check, or Of,", putsRoom, wasPuts)
}

// spoil changes what was answered, and the room behind it.
func spoil(l []api.Put) {
	l = l[:cap(l)]
	for at := range l {
		l[at] = api.Put{Task: "spoilt", Node: -5}
	}
}

func TestAnswersShareNothing(t *testing.T) {
	for _, nodes := range goodNodes() {
		for _, l := range goodTasks() {
			first, _ := Assign(nodes, 2, l)
			second, e := Assign(nodes, 2, l)
			kept := slices.Clone(second)
			spoil(first)
			wantStays(t, "what came of another call", second, kept)
			wantAssign(t, nodes, 2, l, kept, e)
		}
	}
}

func TestWhatIsHandedInMayBeChangedBehindTheCall(t *testing.T) {
	nodes, l := []int{1, 2, 5}, []string{"a", "b", "c"}
	puts, _ := Assign(nodes, 3, l)
	want, _ := slowAssign([]int{1, 2, 5}, 3, []string{"a", "b", "c"})
	clear(nodes)
	clear(l)
	wantStays(t, "a change to what was handed in", puts, want)
}

func TestAnswersComeAgain(t *testing.T) {
	r := rand.New(rand.NewSource(seed))
	for range 200 {
		nodes, spots, l := drawnNodes(r, 64), r.Intn(35), drawnTasks(r, 100)
		puts, e := Assign(nodes, spots, l)
		for range 5 {
			wantAssign(t, nodes, spots, l, puts, e)
		}
	}
}
