package plan

import (
	"math/rand"
	"slices"
	"strings"
	"testing"

	"tattle/api"
)

// P15.1: Check, Back

// wantMoves fails if moves that may be are refused, or do not come back changed about.
func wantMoves(t *testing.T, l []api.Move) {
	t.Helper()
	wantCheck(t, l, api.OK)
	var back []api.Move
	for _, m := range l {
		back = append(back, api.Move{Task: m.Task, From: m.To, To: m.From})
	}
	wantBack(t, l, back, api.OK)
	wantCheck(t, back, api.OK)
	wantBack(t, back, l, api.OK)
}

// wantNoMoves fails if moves that may not be are not refused.
func wantNoMoves(t *testing.T, l []api.Move) {
	t.Helper()
	wantCheck(t, l, api.ErrArg)
	wantBack(t, l, nil, api.ErrArg)
}

func TestMovesThatMayBe(t *testing.T) {
	for _, l := range goodTasks() {
		wantMoves(t, moved(l))
		wantMoves(t, each(l, -1, 0))
		wantMoves(t, each(l, 63, -1))
		wantMoves(t, each(l, 0, 63))
	}
}

func TestMovesThatMayNotBe(t *testing.T) {
	for _, l := range badMoves() {
		wantNoMoves(t, l)
	}
	wantNoMoves(t, make([]api.Move, 100000))
}

func TestMovesOfNone(t *testing.T) {
	for _, l := range [][]api.Move{nil, {}, moved(row(5))[:0]} {
		wantCheck(t, l, api.OK)
		wantBack(t, l, nil, api.OK)
	}
}

func TestMovesOfMany(t *testing.T) {
	for n := range 101 {
		wantMoves(t, moved(row(n)))
	}
	for n := 101; n < 400; n++ {
		wantNoMoves(t, moved(row(n)))
	}
}

func TestBackKnown(t *testing.T) {
	wantBack(t, []api.Move{{Task: "a", From: 1, To: 2}, {Task: "b", From: -1, To: 63}, {Task: "c", From: 0, To: -1}}, []api.Move{{Task: "a", From: 2, To: 1}, {Task: "b", From: 63, To: -1}, {Task: "c", From: -1, To: 0}}, api.OK)
}

func TestMovesFromEachToEach(t *testing.T) {
	for from := -70; from < 140; from++ {
		for to := -70; to < 140; to++ {
			l := []api.Move{{Task: "a", From: from, To: to}}
			if from >= -1 && from <= 63 && to >= -1 && to <= 63 && from != to {
				wantMoves(t, l)
			} else {
				wantNoMoves(t, l)
			}
		}
	}
}

func TestMovesOfNodesAtEachPlace(t *testing.T) {
	for _, size := range []int{1, 2, 3, 99, 100} {
		for at := range size {
			task := row(size)[at]
			for _, from := range goodNumbers {
				for _, to := range goodNumbers {
					l := but(moved(row(size)), at, api.Move{Task: task, From: from, To: to})
					if from == to {
						wantNoMoves(t, l)
					} else {
						wantMoves(t, l)
					}
				}
			}
		}
	}
}

func TestMovesOfTwo(t *testing.T) {
	// Of two that differ in one octet, at each place, that one tells which comes ahead.
	for size := 1; size <= 20; size++ {
		for _, at := range []int{0, size / 2, size - 1} {
			for i := range len(inNames) {
				for j := range len(inNames) {
					a, b := slices.Repeat([]byte{'m'}, size), slices.Repeat([]byte{'m'}, size)
					a[at], b[at] = inNames[i], inNames[j]
					want := api.ErrArg
					if i < j {
						want = api.OK
					}
					wantCheck(t, moved([]string{string(a), string(b)}), want)
				}
			}
		}
	}
}

func TestMovesOfEachOctet(t *testing.T) {
	for size := range 23 {
		for at := range size {
			for c := range 256 {
				b := slices.Repeat([]byte{'m'}, size)
				b[at] = byte(c)
				want := api.ErrArg
				if strings.IndexByte(inNames, byte(c)) >= 0 && size <= 20 {
					want = api.OK
				}
				wantCheck(t, moved([]string{string(b)}), want)
			}
		}
	}
}

func TestMovesThatAreDrawn(t *testing.T) {
	r := rand.New(rand.NewSource(seed))
	met := map[bool]int{}
	for range 5000 {
		l := moved(drawnTasks(r, 6))
		for range r.Intn(3) {
			switch at := r.Intn(len(l) + 1); r.Intn(4) {
			case 0:
				l = with(l, at, api.Move{Task: drawnName(r), From: r.Intn(64), To: -1})
			case 1:
				l = with(l, at, api.Move{Task: string([]byte{byte(r.Intn(256))}), From: r.Intn(64), To: -1})
			case 2:
				if at < len(l) {
					l[at].From = r.Intn(80) - 8
				}
			case 3:
				if at < len(l) {
					l[at].To = r.Intn(80) - 8
				}
			}
		}
		may := slowCheck(l)
		met[may]++
		if may {
			wantMoves(t, l)
		} else {
			wantNoMoves(t, l)
		}
	}
	if met[true] < 1000 || met[false] < 1000 {
		t.Errorf("drawn: %v", met)
	}
}
