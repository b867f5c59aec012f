package plan

import (
	"math/rand"
	"slices"
	"testing"

	"tattle/api"
)

// P15.4

// wantFollows fails if what differs does not make the one the other one, and back, or if fewer moves do; it says whether there are not too many.
func wantFollows(t *testing.T, a, b []api.Put) bool {
	t.Helper()
	l, e := Diff(a, b)
	if e == api.ErrFull && len(slowDiff(a, b)) > 100 {
		return false
	}
	if e != api.OK {
		t.Fatalf("Diff(%v, %v): %d", few(a), few(b), e)
	}
	wantCheck(t, l, api.OK)
	wantApply(t, a, l, b, api.OK)
	back, e := Back(l)
	if e != api.OK {
		t.Fatalf("Back(%v): %d", few(l), e)
	}
	wantApply(t, b, back, a, api.OK)
	wantDiff(t, b, a, back, api.OK)
	wantDiff(t, a, a, nil, api.OK)
	wantDiff(t, b, b, nil, api.OK)
	for at := range l {
		then, e := Apply(a, without(l, at))
		if e == api.OK && slices.Equal(then, b) {
			t.Errorf("%v comes of %v without the move of %q", few(b), few(a), l[at].Task)
		}
	}
	return true
}

func TestWhatFollows(t *testing.T) {
	for _, x := range goodTasks() {
		for _, y := range goodTasks() {
			wantFollows(t, placed(x), placed(y))
			wantFollows(t, all(x, 0), all(y, 0))
			wantFollows(t, all(x, 0), all(y, 63))
		}
	}
}

func TestWhatFollowsOfWhatIsDrawn(t *testing.T) {
	r := rand.New(rand.NewSource(seed))
	met := map[bool]int{}
	for range 800 {
		l := drawnTasks(r, 140)
		met[wantFollows(t, drawnPuts(r, l, 1+r.Intn(4)), drawnPuts(r, l, 1+r.Intn(64)))]++
	}
	if met[true] < 400 || met[false] < 20 {
		t.Errorf("drawn: %v", met)
	}
}

// allPuts are all ways in which three tasks are on two nodes, or nowhere.
func allPuts() [][]api.Put {
	var lists [][]api.Put
	for x := range 27 {
		var l []api.Put
		for at, task := range []string{"a", "b", "c"} {
			if n := x / []int{1, 3, 9}[at] % 3; n > 0 {
				l = append(l, api.Put{Task: task, Node: n})
			}
		}
		lists = append(lists, l)
	}
	return lists
}

// allMoves are all moves of these tasks between these nodes, or from, or to nowhere.
func allMoves() [][]api.Move {
	ways := [][2]int{{0, 0}, {-1, 1}, {-1, 2}, {1, -1}, {1, 2}, {2, -1}, {2, 1}}
	var lists [][]api.Move
	for x := range 343 {
		var l []api.Move
		for at, task := range []string{"a", "b", "c"} {
			if way := ways[x/[]int{1, 7, 49}[at]%7]; way[0] != way[1] {
				l = append(l, api.Move{Task: task, From: way[0], To: way[1]})
			}
		}
		lists = append(lists, l)
	}
	return lists
}

func TestNoOtherMovesMakeOneTheOtherOne(t *testing.T) {
	for _, a := range allPuts() {
		come := 0
		for _, l := range allMoves() {
			then, e := Apply(a, l)
			wantApplies(t, a, l)
			if e == api.OK {
				come++
				wantDiff(t, a, then, l, api.OK)
				wantFollows(t, a, then)
			}
		}
		// Each one comes of just one list of moves.
		if come != 27 {
			t.Errorf("of %v there come %d; want 27", a, come)
		}
	}
}

// R3, R4

// spoil changes what was answered, and the room behind it.
func spoil[T any](l []T, x T) {
	l = l[:cap(l)]
	for at := range l {
		l[at] = x
	}
}

var (
	spoiltPut  = api.Put{Task: "spoilt", Node: -5}
	spoiltMove = api.Move{Task: "spoilt", From: -5, To: 70}
)

func TestWhatIsHandedInStaysAsItWas(t *testing.T) {
	// Behind all there is room, that has something else.
	one := append(all(row(5), 1), api.Put{Task: "A", Node: 64}, api.Put{Node: -1})
	other := append(all(row(10)[3:], 2), api.Put{Task: "A", Node: 64}, api.Put{Node: -1})
	moves := append(each(row(5), 1, -1), api.Move{Task: "A", From: 64, To: 64}, api.Move{From: -2})
	wasOne, wasOther, wasMoves := slices.Clone(one), slices.Clone(other), slices.Clone(moves)
	for n := range len(one) + 1 {
		for m := range len(other) + 1 {
			l, _ := Diff(one[:n], other[:m])
			spoil(l, spoiltMove)
		}
		for m := range len(moves) + 1 {
			then, _ := Apply(one[:n], moves[:m])
			spoil(then, spoiltPut)
			then, _ = Apply(other[:n], moves[:m])
			spoil(then, spoiltPut)
			Check(moves[:m])
			back, _ := Back(moves[:m])
			spoil(back, spoiltMove)
		}
	}
	wantStays(t, "what came of Diff, or Apply,", one, wasOne)
	wantStays(t, "what came of Diff, or Apply,", other, wasOther)
	wantStays(t, "what came of Apply, Check, or Back,", moves, wasMoves)
}

func TestAnswersShareNothing(t *testing.T) {
	for _, l := range goodTasks() {
		a, b := placed(l), all(row(50), 6)
		first, _ := Diff(a, b)
		second, e := Diff(a, b)
		kept := slices.Clone(second)
		then, _ := Apply(a, second)
		again, eA := Apply(a, second)
		keptThen := slices.Clone(again)
		back, _ := Back(second)
		backAgain, eB := Back(second)
		keptBack := slices.Clone(backAgain)
		spoil(first, spoiltMove)
		spoil(then, spoiltPut)
		spoil(back, spoiltMove)
		wantStays(t, "what came of another Diff", second, kept)
		wantStays(t, "what came of another Apply", again, keptThen)
		wantStays(t, "what came of another Back", backAgain, keptBack)
		wantDiff(t, a, b, kept, e)
		wantApply(t, a, kept, keptThen, eA)
		wantBack(t, kept, keptBack, eB)
		// Of no moves what is put is answered anew.
		then, _ = Apply(a, nil)
		spoil(then, spoiltPut)
		wantStays(t, "what came of Apply", a, placed(l))
	}
}

func TestWhatIsHandedInMayBeChangedBehindTheCall(t *testing.T) {
	a, b := all([]string{"a", "b", "c"}, 1), all([]string{"b", "c", "d"}, 2)
	l, _ := Diff(a, b)
	then, _ := Apply(a, l)
	same, _ := Apply(a, nil)
	handed := slices.Clone(l)
	back, _ := Back(handed)
	clear(a)
	clear(b)
	clear(handed)
	wantStays(t, "a change to what Diff was handed", l, slowDiff(all([]string{"a", "b", "c"}, 1), all([]string{"b", "c", "d"}, 2)))
	wantStays(t, "a change to what Apply was handed", then, all([]string{"b", "c", "d"}, 2))
	wantStays(t, "a change to what Apply was handed", same, all([]string{"a", "b", "c"}, 1))
	wantStays(t, "a change to what Back was handed", back, slowDiff(all([]string{"b", "c", "d"}, 2), all([]string{"a", "b", "c"}, 1)))
}

func TestAnswersComeAgain(t *testing.T) {
	r := rand.New(rand.NewSource(seed))
	for range 200 {
		l := drawnTasks(r, 150)
		a, b := drawnPuts(r, l, 3), drawnPuts(r, l, 64)
		moves, e := Diff(a, b)
		then, eA := Apply(a, moves)
		back, eB := Back(moves)
		for range 5 {
			wantDiff(t, a, b, moves, e)
			wantApply(t, a, moves, then, eA)
			wantBack(t, moves, back, eB)
		}
	}
}
