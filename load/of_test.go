package load

import (
	"math/rand"
	"strings"
	"testing"

	"tattle/api"
)

// P14.2: Of

func TestOfEachTask(t *testing.T) {
	for _, l := range goodTasks() {
		puts := placed(l)
		for _, p := range puts {
			wantOf(t, puts, p.Task, p.Node, api.OK)
		}
	}
}

func TestOfOneAmongThree(t *testing.T) {
	puts := []api.Put{{Task: "b", Node: 63}, {Task: "d", Node: 0}, {Task: "f", Node: 63}}
	wantOf(t, puts, "b", 63, api.OK)
	wantOf(t, puts, "d", 0, api.OK)
	wantOf(t, puts, "f", 63, api.OK)
	// Ahead of all, between two, and behind all; what begins one, and what one begins.
	for _, task := range []string{"a", "c", "e", "g", "ba", "da", "fa", "b-", "-", "0", "z"} {
		wantOf(t, puts, task, 0, api.ErrNone)
	}
	long := []api.Put{{Task: "job-1", Node: 5}, {Task: "job-10", Node: 6}, {Task: "job-2", Node: 7}}
	for _, task := range []string{"j", "job", "job-", "job-11", "job-100", "job-1-", "job-20", "job-3", "ob-1"} {
		wantOf(t, long, task, 0, api.ErrNone)
	}
	wantOf(t, long, "job-1", 5, api.OK)
	wantOf(t, long, "job-10", 6, api.OK)
	wantOf(t, long, "job-2", 7, api.OK)
}

func TestOfWhatIsNoName(t *testing.T) {
	// That is none of them, and no fault else.
	for _, task := range append(badNames("0001-x"), "", "A", "B", "\xff", "0001-x ", strings.Repeat("a", 1<<16)) {
		wantOf(t, placed(row(3)), task, 0, api.ErrNone)
		wantOf(t, placed(row(100)), task, 0, api.ErrNone)
		wantOf(t, nil, task, 0, api.ErrNone)
	}
}

func TestOfNothingPut(t *testing.T) {
	for _, task := range []string{"a", "z", "", "A", strings.Repeat("a", 20)} {
		wantOf(t, nil, task, 0, api.ErrNone)
		wantOf(t, []api.Put{}, task, 0, api.ErrNone)
		wantOf(t, placed(row(3))[:0], task, 0, api.ErrNone)
	}
}

func TestOfWhatMayNotBe(t *testing.T) {
	for _, l := range badTasks() {
		puts := placed(l)
		// Whether the task is one of them or not.
		for _, task := range []string{l[0], l[len(l)/2], l[len(l)-1], "a", "none", ""} {
			wantOf(t, puts, task, 0, api.ErrArg)
		}
	}
	for _, n := range badNumbers {
		for at := range 3 {
			puts := but(placed(row(3)), at, api.Put{Task: row(3)[at], Node: n})
			for _, task := range append(row(3), "none", "") {
				wantOf(t, puts, task, 0, api.ErrArg)
			}
		}
	}
}

func TestOfWhatIsDrawn(t *testing.T) {
	r := rand.New(rand.NewSource(seed))
	for range 500 {
		puts := placed(drawnTasks(r, 100))
		node := map[string]int{}
		for _, p := range puts {
			node[p.Task] = p.Node
			wantOf(t, puts, p.Task, p.Node, api.OK)
		}
		for range 20 {
			task := drawnName(r)
			if n, ok := node[task]; ok {
				wantOf(t, puts, task, n, api.OK)
			} else {
				wantOf(t, puts, task, 0, api.ErrNone)
			}
		}
	}
}
