package timer

import (
	"math"
	"math/rand"
	"slices"
	"testing"

	"tattle/api"
)

// The tests' draws are from this seed, so that a failure comes again.
const seed = 1

// at are timers that differ in At alone.
func at(ticks ...int64) []api.Timer {
	var l []api.Timer
	for _, n := range ticks {
		l = append(l, api.Timer{At: n})
	}
	return l
}

// rising are timers, each ahead of the next one, with the edges of all their parts.
func rising() []api.Timer {
	var l []api.Timer
	for _, a := range []int64{math.MinInt64, math.MinInt32 - 1, -1, 0, 1, 1 << 32, math.MaxInt64} {
		for _, k := range []int{math.MinInt, -1, 0, 1, math.MaxInt} {
			for _, w := range []int{math.MinInt, -1, 0, 1, math.MaxInt} {
				for _, n := range []uint64{0, 1, 1 << 32, 1 << 63, math.MaxUint64} {
					l = append(l, api.Timer{At: a, Kind: k, Who: w, N: n})
				}
			}
		}
	}
	return l
}

// few are so many timers that rise.
func few(n int) []api.Timer {
	var l []api.Timer
	for i := range n {
		l = append(l, api.Timer{At: int64(i / 8), Kind: i / 4 % 2, Who: i / 2 % 2, N: uint64(i % 2)})
	}
	return l
}

// drawn are up to n timers in no order, many of them the same ones.
func drawn(r *rand.Rand, n int) []api.Timer {
	var l []api.Timer
	for range r.Intn(n + 1) {
		l = append(l, api.Timer{At: int64(r.Intn(5)) - 2, Kind: r.Intn(3) - 1, Who: r.Intn(3) - 1, N: uint64(r.Intn(2))})
	}
	return l
}

// slowAhead is the order as the chapter tells it, part by part.
func slowAhead(a, b api.Timer) bool {
	if a.At != b.At {
		return a.At < b.At
	}
	if a.Kind != b.Kind {
		return a.Kind < b.Kind
	}
	if a.Who != b.Who {
		return a.Who < b.Who
	}
	return a.N < b.N
}

// slowSort is lists put in order, one timer after the other at its place.
func slowSort(lists ...[]api.Timer) []api.Timer {
	var s []api.Timer
	for _, l := range lists {
		for _, t := range l {
			i := 0
			for i < len(s) && !slowAhead(t, s[i]) {
				i++
			}
			s = slices.Insert(s, i, t)
		}
	}
	return s
}

// those are the timers of l that are as asked, and the others.
func those(l []api.Timer, asked func(t api.Timer) bool) ([]api.Timer, []api.Timer) {
	var yes, no []api.Timer
	for _, t := range l {
		if asked(t) {
			yes = append(yes, t)
		} else {
			no = append(no, t)
		}
	}
	return yes, no
}

// badTimers are lists that may not be timers.
func badTimers() [][]api.Timer {
	bad := [][]api.Timer{
		few(257),
		make([]api.Timer, 257),
		make([]api.Timer, 1000),
		at(2, 1),
		at(1, 2, 1),
		at(1, 0, 2),
		at(math.MaxInt64, math.MinInt64),
		{{Kind: 1}, {}},
		{{Who: 1}, {}},
		{{N: 1}, {}},
		{{N: math.MaxUint64}, {N: math.MaxUint64 - 1}},
		{{At: 1, Kind: 1}, {At: 1, Who: 5, N: 5}},
		{{Kind: 1, Who: 1}, {Kind: 1, N: 5}},
	}
	for i := range 255 {
		l := few(256)
		l[i], l[i+1] = l[i+1], l[i]
		bad = append(bad, l)
	}
	tooMany := few(300)
	slices.Reverse(tooMany)
	return append(bad, tooMany)
}

// wantSame fails if what was handed in is not as it was.
func wantSame(t *testing.T, call string, l, was []api.Timer) {
	t.Helper()
	if !slices.Equal(l, was) {
		t.Errorf("%s changed %v to %v", call, was, l)
	}
}

func wantCheck(t *testing.T, l []api.Timer, want api.Errno) {
	t.Helper()
	was := slices.Clone(l)
	if e := Check(l); e != want {
		t.Errorf("Check(%v): %d; want %d", l, e, want)
	}
	wantSame(t, "Check", l, was)
}

func wantSort(t *testing.T, l, s []api.Timer, want api.Errno) {
	t.Helper()
	was := slices.Clone(l)
	if x, e := Sort(l); !slices.Equal(x, s) || e != want {
		t.Errorf("Sort(%v): %v, %d; want %v, %d", l, x, e, s, want)
	}
	wantSame(t, "Sort", l, was)
}

func wantAdd(t *testing.T, l, more, then []api.Timer, want api.Errno) {
	t.Helper()
	was, wasMore := slices.Clone(l), slices.Clone(more)
	if x, e := Add(l, more...); !slices.Equal(x, then) || e != want {
		t.Errorf("Add(%v, %v): %v, %d; want %v, %d", l, more, x, e, then, want)
	}
	wantSame(t, "Add", l, was)
	wantSame(t, "Add", more, wasMore)
}

func wantDue(t *testing.T, l []api.Timer, now int64, due, others []api.Timer, want api.Errno) {
	t.Helper()
	was := slices.Clone(l)
	if x, y, e := Due(l, now); !slices.Equal(x, due) || !slices.Equal(y, others) || e != want {
		t.Errorf("Due(%v, %d): %v, %v, %d; want %v, %v, %d", l, now, x, y, e, due, others, want)
	}
	wantSame(t, "Due", l, was)
}

func wantDrop(t *testing.T, l []api.Timer, kind, who int, then []api.Timer, want api.Errno) {
	t.Helper()
	was := slices.Clone(l)
	if x, e := Drop(l, kind, who); !slices.Equal(x, then) || e != want {
		t.Errorf("Drop(%v, %d, %d): %v, %d; want %v, %d", l, kind, who, x, e, then, want)
	}
	wantSame(t, "Drop", l, was)
}

func wantNext(t *testing.T, l []api.Timer, first api.Timer, want api.Errno) {
	t.Helper()
	was := slices.Clone(l)
	if x, e := Next(l); x != first || e != want {
		t.Errorf("Next(%v): %v, %d; want %v, %d", l, x, e, first, want)
	}
	wantSame(t, "Next", l, was)
}

// P3.1

func TestLessOfEachPair(t *testing.T) {
	l := rising()
	for i, a := range l {
		for j, b := range l {
			if Less(a, b) != (i < j) {
				t.Fatalf("Less(%v, %v): %v", a, b, !(i < j))
			}
		}
	}
}

func TestLessByOnePartAlone(t *testing.T) {
	a := api.Timer{At: 5, Kind: 5, Who: 5, N: 5}
	for _, b := range []api.Timer{{At: 6, Kind: 5, Who: 5, N: 5}, {At: 5, Kind: 6, Who: 5, N: 5}, {At: 5, Kind: 5, Who: 6, N: 5}, {At: 5, Kind: 5, Who: 5, N: 6}} {
		if !Less(a, b) || Less(b, a) || Less(a, a) || Less(b, b) {
			t.Errorf("Less of %v and %v", a, b)
		}
	}
}

func TestLessGoesByTheFirstPartThatDiffers(t *testing.T) {
	for _, c := range [][2]api.Timer{
		{{At: 1, Kind: 9, Who: 9, N: 9}, {At: 2}},
		{{At: 1, Kind: 1, Who: 9, N: 9}, {At: 1, Kind: 2}},
		{{At: 1, Kind: 1, Who: 1, N: 9}, {At: 1, Kind: 1, Who: 2}},
	} {
		if !Less(c[0], c[1]) || Less(c[1], c[0]) {
			t.Errorf("Less of %v and %v", c[0], c[1])
		}
	}
}

func TestCheckOfTimersThatMayBe(t *testing.T) {
	all := rising()
	for _, l := range [][]api.Timer{
		nil,
		{},
		at(7),
		at(-7),
		at(1, 1),
		at(math.MinInt64, math.MinInt64, 0, math.MaxInt64, math.MaxInt64),
		make([]api.Timer, 256),
		few(255),
		few(256),
		all[:256],
		all[len(all)-256:],
	} {
		wantCheck(t, l, api.OK)
	}
	for i := range all[:len(all)-1] {
		wantCheck(t, all[i:i+2], api.OK)
	}
}

func TestCheckOfTimersThatMayNotBe(t *testing.T) {
	for _, l := range badTimers() {
		wantCheck(t, l, api.ErrArg)
	}
	all := rising()
	wantCheck(t, all[:257], api.ErrArg)
	for i := range all[:len(all)-1] {
		wantCheck(t, []api.Timer{all[i+1], all[i]}, api.ErrArg)
	}
}

func TestSortOfFew(t *testing.T) {
	wantSort(t, nil, nil, api.OK)
	wantSort(t, []api.Timer{}, nil, api.OK)
	wantSort(t, at(4), at(4), api.OK)
	wantSort(t, at(5, 3, 4), at(3, 4, 5), api.OK)
	wantSort(t, at(2, 2, 1, 2, 1), at(1, 1, 2, 2, 2), api.OK)
	wantSort(t, at(math.MaxInt64, 0, math.MinInt64), at(math.MinInt64, 0, math.MaxInt64), api.OK)
	wantSort(t, []api.Timer{{N: math.MaxUint64}, {N: 1 << 63}, {N: 1}}, []api.Timer{{N: 1}, {N: 1 << 63}, {N: math.MaxUint64}}, api.OK)
	wantSort(t, []api.Timer{{N: 1}, {Who: 1}, {Kind: 1}, {At: 1}, {}}, []api.Timer{{}, {N: 1}, {Who: 1}, {Kind: 1}, {At: 1}}, api.OK)
	wantSort(t, []api.Timer{{At: -1}, {Kind: -1}, {Who: -1}, {}}, []api.Timer{{At: -1}, {Kind: -1}, {Who: -1}, {}}, api.OK)
}

func TestSortOfEachOrder(t *testing.T) {
	l := []api.Timer{{At: 1}, {At: 1}, {At: 1, N: 1}, {At: 1, Who: 1}, {At: 1, Kind: 1}, {At: 2}}
	var each func(ahead, left []api.Timer)
	each = func(ahead, left []api.Timer) {
		if len(left) == 0 {
			wantSort(t, ahead, l, api.OK)
		}
		for i := range left {
			each(append(slices.Clone(ahead), left[i]), slices.Delete(slices.Clone(left), i, i+1))
		}
	}
	each(nil, l)
}

func TestSortOfTheMost(t *testing.T) {
	r := rand.New(rand.NewSource(seed))
	all := rising()
	for range 50 {
		from := r.Intn(len(all) - 256)
		for _, l := range [][]api.Timer{few(255), few(256), all[from : from+256], make([]api.Timer, 256)} {
			x := slices.Clone(l)
			wantSort(t, x, l, api.OK)
			slices.Reverse(x)
			wantSort(t, x, l, api.OK)
			r.Shuffle(len(x), func(i, j int) { x[i], x[j] = x[j], x[i] })
			wantSort(t, x, l, api.OK)
		}
	}
}

func TestSortOfTooMany(t *testing.T) {
	backwards := few(300)
	slices.Reverse(backwards)
	for _, l := range [][]api.Timer{few(257), make([]api.Timer, 257), backwards, make([]api.Timer, 1<<16)} {
		wantSort(t, l, nil, api.ErrFull)
	}
}

func TestSortOfWhatIsDrawn(t *testing.T) {
	r := rand.New(rand.NewSource(seed))
	for range 1000 {
		l := drawn(r, 256)
		wantSort(t, l, slowSort(l), api.OK)
	}
}

// P3.2

func TestAddOfFew(t *testing.T) {
	wantAdd(t, nil, nil, nil, api.OK)
	wantAdd(t, []api.Timer{}, []api.Timer{}, nil, api.OK)
	wantAdd(t, nil, at(5, 3, 4), at(3, 4, 5), api.OK)
	wantAdd(t, at(3, 4, 5), nil, at(3, 4, 5), api.OK)
	wantAdd(t, at(1, 3), at(2), at(1, 2, 3), api.OK)
	wantAdd(t, at(1, 3), at(0), at(0, 1, 3), api.OK)
	wantAdd(t, at(1, 3), at(4), at(1, 3, 4), api.OK)
	wantAdd(t, at(1, 3), at(3, 1), at(1, 1, 3, 3), api.OK)
	wantAdd(t, at(0), at(math.MaxInt64, math.MinInt64), at(math.MinInt64, 0, math.MaxInt64), api.OK)
	a := api.Timer{At: 5, Kind: 5, Who: 5, N: 5}
	for _, b := range []api.Timer{{At: 4, Kind: 9, Who: 9, N: 9}, {At: 5, Kind: 4, Who: 9, N: 9}, {At: 5, Kind: 5, Who: 4, N: 9}, {At: 5, Kind: 5, Who: 5, N: 4}} {
		wantAdd(t, []api.Timer{a}, []api.Timer{b}, []api.Timer{b, a}, api.OK)
		wantAdd(t, []api.Timer{b}, []api.Timer{a}, []api.Timer{b, a}, api.OK)
	}
}

func TestAddUpToTheMost(t *testing.T) {
	l := few(256)
	for _, n := range []int{0, 1, 2, 128, 255, 256} {
		wantAdd(t, l[:n], l[n:], l, api.OK)
		wantAdd(t, l[256-n:], l[:256-n], l, api.OK)
		same := make([]api.Timer, 256)
		wantAdd(t, same[:n], same[n:], same, api.OK)
	}
}

func TestAddOfTooMany(t *testing.T) {
	l := few(257)
	for _, n := range []int{0, 1, 2, 128, 255, 256} {
		wantAdd(t, l[:n], l[n:], nil, api.ErrFull)
		wantAdd(t, make([]api.Timer, n), make([]api.Timer, 257-n), nil, api.ErrFull)
		wantAdd(t, l[:n], make([]api.Timer, 1<<16), nil, api.ErrFull)
	}
	wantAdd(t, nil, few(257), nil, api.ErrFull)
}

func TestAddToWhatMayNotBe(t *testing.T) {
	for _, l := range badTimers() {
		for _, more := range [][]api.Timer{nil, at(9), make([]api.Timer, 256), make([]api.Timer, 257)} {
			wantAdd(t, l, more, nil, api.ErrArg)
		}
	}
}

func TestDueByEachTick(t *testing.T) {
	wantDue(t, at(3, 4, 5), 4, at(3, 4), at(5), api.OK)
	l := []api.Timer{{At: -1, Kind: 7}, {At: 3, Who: -9}, {At: 3, N: 1}, {At: 3, Kind: 1}, {At: 5}, {At: 5}, {At: 9}}
	for now := int64(-3); now <= 11; now++ {
		due, others := those(l, func(x api.Timer) bool { return x.At <= now })
		wantDue(t, l, now, due, others, api.OK)
	}
	for now, n := range map[int64]int{math.MinInt64: 0, -2: 0, -1: 1, 0: 1, 2: 1, 3: 4, 4: 4, 5: 6, 8: 6, 9: 7, 10: 7, 1 << 40: 7, math.MaxInt64: 7} {
		wantDue(t, l, now, l[:n], l[n:], api.OK)
	}
}

func TestDueOfNoneOfOneAndOfTheMost(t *testing.T) {
	for _, now := range []int64{math.MinInt64, -1, 0, 1, math.MaxInt64} {
		wantDue(t, nil, now, nil, nil, api.OK)
		wantDue(t, []api.Timer{}, now, nil, nil, api.OK)
	}
	wantDue(t, at(7), 6, nil, at(7), api.OK)
	wantDue(t, at(7), 7, at(7), nil, api.OK)
	wantDue(t, at(7), 8, at(7), nil, api.OK)
	l := few(256)
	for now := int64(-1); now <= 33; now++ {
		n := int(min(max(8*(now+1), 0), 256))
		wantDue(t, l, now, l[:n], l[n:], api.OK)
	}
}

func TestDueAtTheLeastAndTheGreatestTick(t *testing.T) {
	l := at(math.MinInt64, math.MinInt64+1, 0, math.MaxInt64-1, math.MaxInt64)
	for now, n := range map[int64]int{math.MinInt64: 1, math.MinInt64 + 1: 2, -1: 2, 0: 3, math.MaxInt64 - 2: 3, math.MaxInt64 - 1: 4, math.MaxInt64: 5} {
		wantDue(t, l, now, l[:n], l[n:], api.OK)
	}
}

func TestDueOfWhatMayNotBe(t *testing.T) {
	for _, l := range badTimers() {
		for _, now := range []int64{math.MinInt64, 0, 1, math.MaxInt64} {
			wantDue(t, l, now, nil, nil, api.ErrArg)
		}
	}
}

func TestDropOfEachKindAndWho(t *testing.T) {
	a, b, c := api.Timer{At: 1, Kind: 1, Who: 2, N: 3}, api.Timer{At: 1, Kind: 2, Who: 1, N: 3}, api.Timer{At: 2, Kind: 1, Who: 2, N: 9}
	l := []api.Timer{a, b, c, c}
	wantDrop(t, l, 1, 2, []api.Timer{b}, api.OK)
	wantDrop(t, l, 2, 1, []api.Timer{a, c, c}, api.OK)
	for _, not := range [][2]int{{1, 1}, {2, 2}, {1, 3}, {0, 0}, {-1, -2}, {3, 3}, {1, 9}, {9, 2}, {math.MinInt, math.MaxInt}} {
		wantDrop(t, l, not[0], not[1], l, api.OK)
	}
	wantDrop(t, []api.Timer{a, c}, 1, 2, nil, api.OK)
	wantDrop(t, nil, 0, 0, nil, api.OK)
	wantDrop(t, []api.Timer{}, 1, 2, nil, api.OK)
}

func TestDropAtTheEdges(t *testing.T) {
	all := rising()
	for i := 0; i < len(all)-256; i += 37 {
		l := all[i : i+256]
		for _, kind := range []int{math.MinInt, -1, 0, 1, math.MaxInt} {
			for _, who := range []int{math.MinInt, -1, 0, 1, math.MaxInt} {
				_, others := those(l, func(x api.Timer) bool { return x.Kind == kind && x.Who == who })
				wantDrop(t, l, kind, who, others, api.OK)
			}
		}
	}
	wantDrop(t, make([]api.Timer, 256), 0, 0, nil, api.OK)
	wantDrop(t, make([]api.Timer, 256), 0, 1, make([]api.Timer, 256), api.OK)
}

func TestDropOfWhatMayNotBe(t *testing.T) {
	for _, l := range badTimers() {
		for _, kind := range []int{0, 1, -1} {
			wantDrop(t, l, kind, 0, nil, api.ErrArg)
		}
	}
}

func TestNextIsTheFirst(t *testing.T) {
	wantNext(t, nil, api.Timer{}, api.ErrNone)
	wantNext(t, []api.Timer{}, api.Timer{}, api.ErrNone)
	wantNext(t, at(3, 4, 5), api.Timer{At: 3}, api.OK)
	wantNext(t, at(0), api.Timer{}, api.OK)
	wantNext(t, make([]api.Timer, 256), api.Timer{}, api.OK)
	all := rising()
	for i := range all {
		wantNext(t, all[i:min(i+256, len(all))], all[i], api.OK)
	}
	for _, l := range badTimers() {
		wantNext(t, l, api.Timer{}, api.ErrArg)
	}
}

// P3.3

func TestWhatIsAddedComesAgain(t *testing.T) {
	r := rand.New(rand.NewSource(seed))
	for range 100 {
		var l, model []api.Timer
		for range 60 {
			more := drawn(r, 40)
			then, want := slowSort(model, more), api.OK
			if len(then) > 256 {
				then, want = nil, api.ErrFull
			}
			wantAdd(t, l, more, then, want)
			if want == api.OK {
				l, _ = Add(l, more...)
				model = then
			}
			now, kind, who := int64(r.Intn(6))-3, r.Intn(4)-1, r.Intn(4)-1
			due, others := those(model, func(x api.Timer) bool { return x.At <= now })
			wantDue(t, l, now, due, others, api.OK)
			if r.Intn(4) == 0 {
				_, l, _ = Due(l, now)
				model = others
			}
			_, kept := those(model, func(x api.Timer) bool { return x.Kind == kind && x.Who == who })
			wantDrop(t, l, kind, who, kept, api.OK)
			if r.Intn(4) == 0 {
				l, _ = Drop(l, kind, who)
				model = kept
			}
			wantCheck(t, l, api.OK)
			if len(model) > 0 {
				wantNext(t, l, model[0], api.OK)
			}
		}
	}
}

func TestWhatIsAddedInPartsIsAddedAtOnce(t *testing.T) {
	r := rand.New(rand.NewSource(seed))
	for range 500 {
		all := drawn(r, 256)
		s := slowSort(all)
		wantAdd(t, nil, all, s, api.OK)
		var l []api.Timer
		for left := all; len(left) > 0; {
			n := 1 + r.Intn(len(left))
			next, e := Add(l, left[:n]...)
			if e != api.OK {
				t.Fatalf("Add(%v, %v): %d", l, left[:n], e)
			}
			l, left = next, left[n:]
		}
		if !slices.Equal(l, s) {
			t.Errorf("%v, added in parts: %v; want %v", all, l, s)
		}
	}
}

func TestTimersComeOneByOne(t *testing.T) {
	r := rand.New(rand.NewSource(seed))
	for range 200 {
		all := drawn(r, 60)
		l, _ := Sort(all)
		var met []api.Timer
		for {
			first, e := Next(l)
			if e == api.ErrNone {
				break
			}
			due, others, _ := Due(l, first.At)
			if len(due) == 0 || due[0] != first {
				t.Fatalf("Due(%v, %d): %v; want %v first", l, first.At, due, first)
			}
			met, l = append(met, due...), others
		}
		if want := slowSort(all); !slices.Equal(met, want) {
			t.Errorf("of %v came %v; want %v", all, met, want)
		}
	}
}

// R3, R4

func TestAnswersAreNewMemory(t *testing.T) {
	room := at(1, 2, 3, 99, 99, 99)
	was := slices.Clone(room)
	more := at(2, 3, 99)
	l := room[:3]
	var answers [][]api.Timer
	keep := func(lists ...[]api.Timer) { answers = append(answers, lists...) }
	sorted, _ := Sort(l)
	added, _ := Add(l, more[:2]...)
	same, _ := Add(l)
	fresh, _ := Add(nil, more[:2]...)
	dropped, _ := Drop(l, 1, 1)
	keep(sorted, added, same, fresh, dropped)
	for _, now := range []int64{0, 2, 3} {
		due, others, _ := Due(l, now)
		keep(due, others)
	}
	for i, x := range answers {
		wanted := make([][]api.Timer, len(answers))
		for j := range answers {
			wanted[j] = slices.Clone(answers[j])
		}
		for j := range x {
			x[j].At = -77
		}
		_ = append(x, api.Timer{At: -78})
		for j := range answers {
			if j != i {
				wantSame(t, "another answer", answers[j], wanted[j])
			}
		}
	}
	wantSame(t, "an answer", room, was)
	wantSame(t, "an answer", more, at(2, 3, 99))
}

func TestRoomBehindAListStaysAsItWas(t *testing.T) {
	room := at(1, 2, 3, 4, 5, 6)
	was := slices.Clone(room)
	Add(room[:2], at(0, 1, 2)...)
	Add(room[:2], room[4:]...)
	Sort(room[:3])
	Due(room[:3], 2)
	Drop(room[:3], 0, 0)
	wantSame(t, "a call", room, was)
}

func TestAnswersComeAgain(t *testing.T) {
	r := rand.New(rand.NewSource(seed))
	for range 300 {
		l, more, now, kind, who := drawn(r, 60), drawn(r, 250), int64(r.Intn(7))-3, r.Intn(3)-1, r.Intn(3)-1
		if r.Intn(4) > 0 {
			l = slowSort(l)
		}
		wantCheck(t, l, Check(l))
		s, e := Sort(more)
		wantSort(t, more, s, e)
		then, e := Add(l, more...)
		wantAdd(t, l, more, then, e)
		due, others, e := Due(l, now)
		wantDue(t, l, now, due, others, e)
		kept, e := Drop(l, kind, who)
		wantDrop(t, l, kind, who, kept, e)
		first, e := Next(l)
		wantNext(t, l, first, e)
	}
}
