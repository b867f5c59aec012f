package load

import (
	"math"
	"math/rand"
	"slices"
	"strings"
	"testing"

	"tattle/api"
)

// P14.1: Tasks

func TestTasksThatMayBe(t *testing.T) {
	for _, l := range goodTasks() {
		wantTasks(t, l, api.OK)
	}
}

func TestTasksThatMayNotBe(t *testing.T) {
	for _, l := range badTasks() {
		wantTasks(t, l, api.ErrArg)
	}
}

func TestTasksOfEachOctetAtEachPlace(t *testing.T) {
	for size := range 21 {
		for at := range size {
			for c := range 256 {
				b := slices.Repeat([]byte{'m'}, size)
				b[at] = byte(c)
				want := api.ErrArg
				if strings.IndexByte(inNames, byte(c)) >= 0 {
					want = api.OK
				}
				wantTasks(t, []string{string(b)}, want)
			}
		}
	}
}

func TestTasksOfEachLength(t *testing.T) {
	for size := range 300 {
		want := api.ErrArg
		if size >= 1 && size <= 20 {
			want = api.OK
		}
		for _, c := range []string{"a", "z", "0", "-"} {
			wantTasks(t, []string{strings.Repeat(c, size)}, want)
		}
	}
	wantTasks(t, []string{strings.Repeat("a", 1<<20)}, api.ErrArg)
}

func TestTasksOfTwo(t *testing.T) {
	// Of two that differ in one octet, at each place, that one tells which comes ahead.
	for size := 1; size <= 20; size++ {
		for at := range size {
			for i := range len(inNames) {
				for j := range len(inNames) {
					a, b := slices.Repeat([]byte{'m'}, size), slices.Repeat([]byte{'m'}, size)
					a[at], b[at] = inNames[i], inNames[j]
					want := api.ErrArg
					if i < j {
						want = api.OK
					}
					wantTasks(t, []string{string(a), string(b)}, want)
				}
			}
		}
	}
}

func TestTasksOfWhichOneBeginsAnother(t *testing.T) {
	for size := 1; size <= 20; size++ {
		for more := 1; size+more <= 20; more++ {
			for _, c := range []string{"-", "0", "m", "z"} {
				a := strings.Repeat("m", size)
				b := a + strings.Repeat(c, more)
				wantTasks(t, []string{a, b}, api.OK)
				wantTasks(t, []string{b, a}, api.ErrArg)
			}
		}
	}
}

func TestTasksThatAreDrawn(t *testing.T) {
	r := rand.New(rand.NewSource(seed))
	met := map[bool]int{}
	for range 5000 {
		l := drawnTasks(r, 8)
		for range r.Intn(2) {
			switch at := r.Intn(len(l) + 1); r.Intn(3) {
			case 0:
				l = with(l, at, drawnName(r))
			case 1:
				l = with(l, at, string([]byte{byte(r.Intn(256))}))
			case 2:
				l = swapped(with(l, at, drawnName(r)), at, 0)
			}
		}
		may := slowTasks(l)
		met[may]++
		if may {
			wantTasks(t, l, api.OK)
		} else {
			wantTasks(t, l, api.ErrArg)
		}
	}
	if met[true] < 500 || met[false] < 500 {
		t.Errorf("drawn: %v", met)
	}
}

// P14.1: Check

func TestCheckOfTasksThatMayBe(t *testing.T) {
	for _, l := range goodTasks() {
		wantCheck(t, placed(l), api.OK)
		for _, n := range []int{0, 1, 31, 62, 63} {
			puts := placed(l)
			// All on one node: more than the bound is no fault here.
			for at := range puts {
				puts[at].Node = n
			}
			wantCheck(t, puts, api.OK)
		}
	}
	wantCheck(t, nil, api.OK)
	wantCheck(t, []api.Put{}, api.OK)
}

func TestCheckOfTasksThatMayNotBe(t *testing.T) {
	for _, l := range badTasks() {
		wantCheck(t, placed(l), api.ErrArg)
	}
}

func TestCheckOfEachNode(t *testing.T) {
	for n := -200; n < 400; n++ {
		want := api.ErrArg
		if n >= 0 && n < 64 {
			want = api.OK
		}
		wantCheck(t, []api.Put{{Task: "a", Node: n}}, want)
		for at := range 3 {
			wantCheck(t, but(placed(row(3)), at, api.Put{Task: row(3)[at], Node: n}), want)
		}
	}
}

func TestCheckOfNodesAtEachPlace(t *testing.T) {
	for _, size := range []int{1, 2, 3, 63, 64, 65, 100} {
		for at := range size {
			task := row(size)[at]
			for _, n := range badNumbers {
				wantCheck(t, but(placed(row(size)), at, api.Put{Task: task, Node: n}), api.ErrArg)
			}
			for _, n := range []int{0, 1, 62, 63} {
				wantCheck(t, but(placed(row(size)), at, api.Put{Task: task, Node: n}), api.OK)
			}
		}
	}
}

func TestCheckOfNodesInWhateverOrder(t *testing.T) {
	wantCheck(t, []api.Put{{Task: "a", Node: 63}, {Task: "b", Node: 0}, {Task: "c", Node: 63}, {Task: "d", Node: 63}, {Task: "e", Node: 5}}, api.OK)
	// One task on two nodes is there twice.
	wantCheck(t, []api.Put{{Task: "a", Node: 1}, {Task: "a", Node: 2}}, api.ErrArg)
	wantCheck(t, []api.Put{{Task: "b", Node: 1}, {Task: "a", Node: 2}}, api.ErrArg)
	wantCheck(t, []api.Put{{Task: "", Node: 64}}, api.ErrArg)
	wantCheck(t, make([]api.Put, 1), api.ErrArg)
	wantCheck(t, make([]api.Put, 100000), api.ErrArg)
}

func TestCheckOfWhatIsDrawn(t *testing.T) {
	r := rand.New(rand.NewSource(seed))
	met := map[bool]int{}
	for range 5000 {
		puts := placed(drawnTasks(r, 6))
		if len(puts) > 0 && r.Intn(2) == 0 {
			puts[r.Intn(len(puts))].Node = r.Intn(100) - 20
		}
		if len(puts) > 0 && r.Intn(4) == 0 {
			puts = swapped(puts, 0, r.Intn(len(puts)))
		}
		may := slowCheck(puts)
		met[may]++
		if may {
			wantCheck(t, puts, api.OK)
		} else {
			wantCheck(t, puts, api.ErrArg)
		}
	}
	if met[true] < 500 || met[false] < 500 {
		t.Errorf("drawn: %v", met)
	}
}

// P14.1: Bound

func TestBoundOfAll(t *testing.T) {
	even := 0
	for tasks := range 101 {
		for nodes := 1; nodes <= 64; nodes++ {
			wantBound(t, tasks, nodes, slowBound(tasks, nodes), api.OK)
			if 5*tasks%(4*nodes) == 0 {
				even++
				wantBound(t, tasks, nodes, 5*tasks/(4*nodes), api.OK)
			}
		}
	}
	if even < 200 {
		t.Errorf("it comes out even only %d times", even)
	}
}

func TestBoundKnown(t *testing.T) {
	for _, c := range []struct{ tasks, nodes, want int }{
		{0, 1, 0}, {0, 2, 0}, {0, 64, 0},
		{1, 1, 2}, {1, 2, 1}, {1, 3, 1}, {1, 64, 1},
		{2, 1, 3}, {3, 1, 4}, {4, 1, 5}, {5, 1, 7}, {99, 1, 124}, {100, 1, 125},
		{4, 2, 3}, {8, 2, 5}, {8, 3, 4}, {8, 4, 3}, {4, 5, 1}, {5, 5, 2}, {8, 5, 2}, {9, 5, 3}, {12, 5, 3}, {16, 5, 4},
		{51, 64, 1}, {52, 64, 2}, {64, 64, 2}, {99, 64, 2}, {100, 64, 2}, {100, 63, 2}, {99, 62, 2}, {100, 62, 3},
	} {
		wantBound(t, c.tasks, c.nodes, c.want, api.OK)
	}
}

func TestBoundRefused(t *testing.T) {
	great := []int{1 << 31, -1 << 31, 1 << 32, 1<<32 + 1, -1 << 32, -1<<32 + 1, 1 << 60, 1 << 61, 1 << 62, 1<<62 + 1, -1 << 62, math.MaxInt / 4, math.MaxInt / 5, math.MaxInt/4 + 1, math.MaxInt/5 + 1, math.MinInt, math.MinInt + 1, math.MaxInt - 1, math.MaxInt}
	tasksRefused := append([]int{-1, -2, -100, -101, 101, 102, 128, 256, 257, 300}, great...)
	nodesRefused := append([]int{0, -1, -2, -64, 65, 66, 128, 256, 257, 300}, great...)
	for _, tasks := range tasksRefused {
		for _, nodes := range []int{1, 2, 5, 63, 64} {
			wantBound(t, tasks, nodes, 0, api.ErrArg)
		}
		for _, nodes := range nodesRefused {
			wantBound(t, tasks, nodes, 0, api.ErrArg)
		}
	}
	for _, nodes := range nodesRefused {
		for _, tasks := range []int{0, 1, 4, 99, 100} {
			wantBound(t, tasks, nodes, 0, api.ErrArg)
		}
	}
}
