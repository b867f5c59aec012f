package know

import (
	"math"
	"math/rand"
	"slices"
	"strconv"
	"testing"

	"tattle/api"
)

// The tests' draws are from this seed, so that a failure comes again.
const seed = 1

// greatest is the greatest incarnation that there is.
const greatest = math.MaxUint64

func alive(inc uint64) api.Know   { return api.Know{Inc: inc, State: api.Alive} }
func suspect(inc uint64) api.Know { return api.Know{Inc: inc, State: api.Suspect} }
func dead(inc uint64) api.Know    { return api.Know{Inc: inc, State: api.Dead} }
func left(inc uint64) api.Know    { return api.Know{Inc: inc, State: api.Left} }

// rising is what may be known, each of which beats all ahead of it: incarnations at the edges, and in the middle where a number of less room would turn.
func rising() []api.Know {
	var l []api.Know
	for _, inc := range []uint64{0, 1, 2, 3, 5, 1<<31 - 1, 1 << 31, 1<<32 - 1, 1 << 32, 1<<53 + 1, 1<<63 - 1, 1 << 63, 1<<63 + 1, greatest - 1, greatest} {
		l = append(l, alive(inc), suspect(inc), dead(inc), left(inc))
	}
	return l
}

// badStates are of nothing that may be.
var badStates = []int{-1, 4, 5, -2, 256, -256, 1 << 30, -1 << 30, math.MinInt32, math.MaxInt32, math.MinInt, math.MaxInt, math.MinInt + 1, math.MaxInt - 1}

// bad is what may not be, of incarnations at either end and between.
func bad() []api.Know {
	var l []api.Know
	for _, s := range badStates {
		for _, inc := range []uint64{0, 1, 3, 1 << 63, greatest} {
			l = append(l, api.Know{Inc: inc, State: s})
		}
	}
	return l
}

// drawn is up to so much that may be known, of few incarnations, so that some of it comes twice.
func drawn(r *rand.Rand, upTo int) []api.Know {
	var l []api.Know
	for range r.Intn(upTo + 1) {
		l = append(l, api.Know{Inc: uint64(r.Intn(5)), State: r.Intn(4)})
	}
	return l
}

// with is a list with one more at a place.
func with(l []api.Know, at int, k api.Know) []api.Know {
	return slices.Insert(slices.Clone(l), at, k)
}

// slowJoin asks each one whether another one beats it, as the chapter tells it.
func slowJoin(l []api.Know) api.Know {
	for _, k := range l {
		if !slices.ContainsFunc(l, func(other api.Know) bool { return slowBeats(other, k) }) {
			return k
		}
	}
	return api.Know{}
}

func slowBeats(a, b api.Know) bool {
	if a.Inc > b.Inc {
		return true
	}
	return a.Inc == b.Inc && a.State > b.State
}

// orders calls f with each order of a list.
func orders(l []api.Know, f func(l []api.Know)) {
	var place func(at int)
	s := slices.Clone(l)
	place = func(at int) {
		if at == len(s) {
			f(s)
			return
		}
		for i := at; i < len(s); i++ {
			s[at], s[i] = s[i], s[at]
			place(at + 1)
			s[at], s[i] = s[i], s[at]
		}
	}
	place(0)
}

// wantSame fails if what was handed in is not as it was.
func wantSame(t *testing.T, call string, l, was []api.Know) {
	t.Helper()
	if !slices.Equal(l, was) {
		t.Errorf("%s changed %v to %v", call, was, l)
	}
}

func wantCheck(t *testing.T, l []api.Know, want api.Errno) {
	t.Helper()
	was := slices.Clone(l)
	if e := Check(l...); e != want {
		t.Errorf("Check(%v): %d; want %d", l, e, want)
	}
	wantSame(t, "Check", l, was)
}

func wantBeats(t *testing.T, a, b api.Know, want bool) {
	t.Helper()
	if x := Beats(a, b); x != want {
		t.Errorf("Beats(%v, %v): %v", a, b, x)
	}
}

func wantJoin(t *testing.T, l []api.Know, k api.Know, want api.Errno) {
	t.Helper()
	was := slices.Clone(l)
	if x, e := Join(l...); x != k || e != want {
		t.Errorf("Join(%v): %v, %d; want %v, %d", l, x, e, k, want)
	}
	wantSame(t, "Join", l, was)
}

func wantRefute(t *testing.T, own uint64, k api.Know, inc uint64, want api.Errno) {
	t.Helper()
	if x, e := Refute(own, k); x != inc || e != want {
		t.Errorf("Refute(%d, %v): %d, %d; want %d, %d", own, k, x, e, inc, want)
	}
}

// must is an answer without an error.
func must[T any](x T, e api.Errno) T {
	if e != api.OK {
		panic("error " + strconv.Itoa(int(e)))
	}
	return x
}

// P5.1

func TestCheckOfWhatMayBe(t *testing.T) {
	wantCheck(t, nil, api.OK)
	wantCheck(t, []api.Know{}, api.OK)
	wantCheck(t, rising(), api.OK)
	wantCheck(t, slices.Repeat(rising(), 1000), api.OK)
	for _, k := range rising() {
		wantCheck(t, []api.Know{k}, api.OK)
		wantCheck(t, []api.Know{k, k}, api.OK)
	}
	if e := Check(); e != api.OK {
		t.Errorf("Check of none: %d", e)
	}
}

func TestCheckOfOneThatMayNotBeAtEachPlace(t *testing.T) {
	others := rising()
	for _, k := range bad() {
		wantCheck(t, []api.Know{k}, api.ErrArg)
		wantCheck(t, []api.Know{k, k}, api.ErrArg)
		for _, n := range []int{1, 2, 7, len(others)} {
			for at := range n + 1 {
				wantCheck(t, with(others[:n], at, k), api.ErrArg)
			}
		}
	}
	wantCheck(t, bad(), api.ErrArg)
	many := slices.Repeat(others, 1000)
	for _, at := range []int{0, len(many) / 2, len(many)} {
		wantCheck(t, with(many, at, api.Know{State: 4}), api.ErrArg)
	}
}

func TestCheckOfEachState(t *testing.T) {
	for s := -10; s <= 10; s++ {
		want := api.ErrArg
		if s == api.Alive || s == api.Suspect || s == api.Dead || s == api.Left {
			want = api.OK
		}
		for _, inc := range []uint64{0, 1, greatest} {
			wantCheck(t, []api.Know{{Inc: inc, State: s}}, want)
		}
	}
}

func TestBeatsOfTheExample(t *testing.T) {
	wantBeats(t, suspect(3), alive(3), true)
	wantBeats(t, alive(3), suspect(3), false)
	wantBeats(t, suspect(3), alive(4), false)
	wantBeats(t, alive(4), suspect(3), true)
}

func TestBeatsOfEachTwo(t *testing.T) {
	l := rising()
	for i, a := range l {
		for j, b := range l {
			wantBeats(t, a, b, i > j)
		}
	}
}

func TestBeatsGoesByStatesOfTheSameInc(t *testing.T) {
	for _, inc := range []uint64{0, 1, 3, 1 << 63, greatest} {
		for a := range 4 {
			for b := range 4 {
				wantBeats(t, api.Know{Inc: inc, State: a}, api.Know{Inc: inc, State: b}, a > b)
			}
		}
	}
}

func TestBeatsGoesByIncsWhateverTheStates(t *testing.T) {
	for _, two := range [][2]uint64{{0, 1}, {2, 3}, {0, greatest}, {greatest - 1, greatest}, {1<<63 - 1, 1 << 63}, {1<<32 - 1, 1 << 32}, {1, 1 << 32}, {2, 1 << 63}} {
		for a := range 4 {
			for b := range 4 {
				less, more := api.Know{Inc: two[0], State: a}, api.Know{Inc: two[1], State: b}
				wantBeats(t, more, less, true)
				wantBeats(t, less, more, false)
			}
		}
	}
}

func TestBeatsOfWhatMayNotBe(t *testing.T) {
	for _, k := range bad() {
		for _, other := range rising() {
			wantBeats(t, k, other, false)
			wantBeats(t, other, k, false)
		}
		for _, other := range bad() {
			wantBeats(t, k, other, false)
		}
	}
}

func TestUpOfEachState(t *testing.T) {
	for _, inc := range []uint64{0, 1, 3, 1 << 63, greatest} {
		for s, want := range []bool{api.Alive: true, api.Suspect: true, api.Dead: false, api.Left: false} {
			if x := Up(api.Know{Inc: inc, State: s}); x != want {
				t.Errorf("Up of %d in state %d: %v", inc, s, x)
			}
		}
	}
	for _, k := range bad() {
		if Up(k) {
			t.Errorf("Up(%v)", k)
		}
	}
}

// P5.2

func TestJoinOfFew(t *testing.T) {
	for _, c := range []struct {
		l []api.Know
		k api.Know
	}{
		{nil, alive(0)},
		{[]api.Know{}, alive(0)},
		{[]api.Know{alive(2), dead(1), suspect(2)}, suspect(2)},
		{[]api.Know{alive(0)}, alive(0)},
		{[]api.Know{left(0)}, left(0)},
		{[]api.Know{alive(greatest)}, alive(greatest)},
		{[]api.Know{left(greatest)}, left(greatest)},
		{[]api.Know{left(greatest - 1), alive(greatest)}, alive(greatest)},
		{[]api.Know{alive(0), left(0), dead(0), suspect(0)}, left(0)},
		{[]api.Know{alive(0), alive(0)}, alive(0)},
		{[]api.Know{dead(7), dead(7), dead(7)}, dead(7)},
		{[]api.Know{left(3), alive(4), left(2)}, alive(4)},
		{[]api.Know{alive(1), alive(1 << 32), left(2)}, alive(1 << 32)},
		{[]api.Know{alive(1 << 63), left(1<<63 - 1)}, alive(1 << 63)},
	} {
		wantJoin(t, c.l, c.k, api.OK)
	}
	if k, e := Join(); k != alive(0) || e != api.OK {
		t.Errorf("Join of none: %v, %d", k, e)
	}
}

func TestJoinOfOneAndOfEachTwo(t *testing.T) {
	l := rising()
	for i, a := range l {
		wantJoin(t, []api.Know{a}, a, api.OK)
		for j, b := range l {
			wantJoin(t, []api.Know{a, b}, l[max(i, j)], api.OK)
		}
	}
}

func TestJoinOfMany(t *testing.T) {
	l := rising()
	for n := 1; n <= len(l); n++ {
		wantJoin(t, l[:n], l[n-1], api.OK)
	}
	many := slices.Repeat(rising()[:20], 1000)
	for _, at := range []int{0, 1, len(many) / 2, len(many)} {
		wantJoin(t, with(many, at, suspect(greatest)), suspect(greatest), api.OK)
	}
}

func TestJoinOfOneThatMayNotBeAtEachPlace(t *testing.T) {
	others := rising()
	for _, k := range bad() {
		wantJoin(t, []api.Know{k}, api.Know{}, api.ErrArg)
		wantJoin(t, []api.Know{k, k}, api.Know{}, api.ErrArg)
		for _, n := range []int{1, 2, 7, len(others)} {
			for at := range n + 1 {
				wantJoin(t, with(others[:n], at, k), api.Know{}, api.ErrArg)
			}
		}
	}
	many := slices.Repeat(others, 1000)
	for _, at := range []int{0, len(many) / 2, len(many)} {
		wantJoin(t, with(many, at, api.Know{Inc: 9, State: -1}), api.Know{}, api.ErrArg)
	}
}

func TestJoinOfWhatIsDrawn(t *testing.T) {
	r := rand.New(rand.NewSource(seed))
	for range 5000 {
		l := drawn(r, 12)
		wantJoin(t, l, slowJoin(l), api.OK)
	}
}

// P5.3

func TestRefuteOfFew(t *testing.T) {
	for _, c := range []struct {
		own uint64
		k   api.Know
		inc uint64
		e   api.Errno
	}{
		{2, dead(5), 6, api.OK},
		{0, alive(0), 0, api.OK},
		{0, suspect(0), 1, api.OK},
		{0, dead(0), 1, api.OK},
		{0, left(0), 1, api.OK},
		{0, alive(1), 2, api.OK},
		{1, alive(0), 1, api.OK},
		{0, alive(greatest), 0, api.ErrLarge},
		{0, left(greatest), 0, api.ErrLarge},
		{0, alive(greatest - 1), greatest, api.OK},
		{0, left(greatest - 1), greatest, api.OK},
		{greatest - 1, suspect(greatest - 1), greatest, api.OK},
		{greatest - 1, alive(greatest - 1), greatest - 1, api.OK},
		{greatest - 1, alive(greatest), 0, api.ErrLarge},
		{greatest, alive(greatest), greatest, api.OK},
		{greatest, suspect(greatest), 0, api.ErrLarge},
		{greatest, dead(greatest), 0, api.ErrLarge},
		{greatest, left(greatest), 0, api.ErrLarge},
		{greatest, left(greatest - 1), greatest, api.OK},
		{greatest, left(0), greatest, api.OK},
		{1 << 63, dead(1<<63 - 1), 1 << 63, api.OK},
		{1<<63 - 1, alive(1 << 63), 1<<63 + 1, api.OK},
		{1, dead(1<<32 - 1), 1 << 32, api.OK},
	} {
		wantRefute(t, c.own, c.k, c.inc, c.e)
	}
}

func TestRefuteOfALesserInc(t *testing.T) {
	for _, two := range [][2]uint64{{0, 1}, {2, 3}, {0, 3}, {0, greatest}, {greatest - 1, greatest}, {1<<63 - 1, 1 << 63}, {1<<32 - 1, 1 << 32}} {
		for s := range 4 {
			wantRefute(t, two[1], api.Know{Inc: two[0], State: s}, two[1], api.OK)
		}
	}
}

func TestRefuteOfTheSameInc(t *testing.T) {
	for _, own := range []uint64{0, 1, 3, 1<<32 - 1, 1<<63 - 1, 1 << 63, greatest - 1} {
		wantRefute(t, own, alive(own), own, api.OK)
		for s := api.Suspect; s <= api.Left; s++ {
			wantRefute(t, own, api.Know{Inc: own, State: s}, own+1, api.OK)
		}
	}
	wantRefute(t, greatest, alive(greatest), greatest, api.OK)
	for s := api.Suspect; s <= api.Left; s++ {
		wantRefute(t, greatest, api.Know{Inc: greatest, State: s}, 0, api.ErrLarge)
	}
}

func TestRefuteOfAGreaterInc(t *testing.T) {
	for _, two := range [][2]uint64{{0, 1}, {2, 3}, {3, 9}, {0, greatest - 1}, {greatest - 2, greatest - 1}, {1<<63 - 1, 1 << 63}, {1<<32 - 1, 1 << 32}} {
		for s := range 4 {
			wantRefute(t, two[0], api.Know{Inc: two[1], State: s}, two[1]+1, api.OK)
		}
	}
	for _, own := range []uint64{0, 1, 1 << 63, greatest - 1} {
		for s := range 4 {
			wantRefute(t, own, api.Know{Inc: greatest, State: s}, 0, api.ErrLarge)
		}
	}
}

func TestRefuteOfWhatMayNotBe(t *testing.T) {
	for _, k := range bad() {
		for _, own := range []uint64{0, 1, 3, k.Inc, 1 << 63, greatest} {
			wantRefute(t, own, k, 0, api.ErrArg)
		}
	}
}

// P5.4

func TestJoinHangsOnNoOrder(t *testing.T) {
	for _, l := range [][]api.Know{
		{alive(2), dead(1), suspect(2)},
		{alive(0), suspect(0), dead(0), left(0)},
		{left(greatest - 1), alive(greatest), suspect(greatest), left(0), alive(0)},
		{left(1), alive(2), suspect(2), alive(2), left(1), alive(0)},
		{alive(3), alive(3), alive(3), dead(3), dead(3)},
	} {
		want := slowJoin(l)
		orders(l, func(l []api.Know) { wantJoin(t, l, want, api.OK) })
	}
	r := rand.New(rand.NewSource(seed))
	for range 2000 {
		l := drawn(r, 12)
		want := must(Join(l...))
		r.Shuffle(len(l), func(i, j int) { l[i], l[j] = l[j], l[i] })
		wantJoin(t, l, want, api.OK)
	}
}

func TestJoinHangsOnNoOrderWhereOneMayNotBe(t *testing.T) {
	orders([]api.Know{alive(2), {Inc: 2, State: 4}, left(greatest), alive(0), alive(2)}, func(l []api.Know) {
		wantCheck(t, l, api.ErrArg)
		wantJoin(t, l, api.Know{}, api.ErrArg)
	})
}

func TestJoinHangsOnNothingTwice(t *testing.T) {
	r := rand.New(rand.NewSource(seed))
	for range 2000 {
		l := drawn(r, 8)
		want := must(Join(l...))
		wantJoin(t, append(slices.Clone(l), l...), want, api.OK)
		for at, k := range l {
			wantJoin(t, with(l, r.Intn(len(l)+1), k), want, api.OK)
			wantJoin(t, with(l, at, want), want, api.OK)
		}
	}
}

func TestJoinGoesByParts(t *testing.T) {
	r := rand.New(rand.NewSource(seed))
	for range 2000 {
		l := drawn(r, 10)
		want := must(Join(l...))
		for at := range len(l) + 1 {
			wantJoin(t, []api.Know{must(Join(l[:at]...)), must(Join(l[at:]...))}, want, api.OK)
		}
	}
}

func TestWhatIsJoinedIsBeatenByNoPart(t *testing.T) {
	r := rand.New(rand.NewSource(seed))
	all := rising()
	for range 2000 {
		l := drawn(r, 8)
		for range 1 + r.Intn(4) {
			l = append(l, all[r.Intn(len(all))])
		}
		most := must(Join(l...))
		if !slices.Contains(l, most) {
			t.Errorf("Join(%v): %v, that is none of them", l, most)
		}
		for _, k := range l {
			wantBeats(t, k, most, false)
			wantBeats(t, most, k, k != most)
		}
	}
}

func TestWhatRefutesBeatsOrIsWhatIsTold(t *testing.T) {
	for _, k := range rising() {
		for _, own := range rising() {
			inc, e := Refute(own.Inc, k)
			if e != api.OK {
				// Nothing of an incarnation that there is would beat it.
				if beyond := alive(greatest); e != api.ErrLarge || Beats(beyond, k) || k == beyond && own.Inc == greatest {
					t.Errorf("Refute(%d, %v): %d", own.Inc, k, e)
				}
				continue
			}
			if k != alive(inc) {
				wantBeats(t, alive(inc), k, true)
			}
			if inc < own.Inc {
				t.Errorf("Refute(%d, %v): %d, that is less than it was", own.Inc, k, inc)
			}
			// Told again what it has refuted, it need not rise again.
			wantRefute(t, inc, k, inc, api.OK)
			wantRefute(t, inc, alive(inc), inc, api.OK)
		}
	}
}

// R3, R4

func TestRoomBehindWhatIsKnownStaysAsItWas(t *testing.T) {
	room := []api.Know{dead(3), alive(4), left(1), suspect(4), alive(greatest), {State: 9}, alive(0)}
	was := slices.Clone(room)
	for n := range len(room) + 1 {
		Check(room[:n]...)
		Join(room[:n]...)
	}
	wantSame(t, "a call", room, was)
}

func TestAnswersComeAgain(t *testing.T) {
	r := rand.New(rand.NewSource(seed))
	for range 500 {
		l := drawn(r, 8)
		if r.Intn(4) == 0 {
			l = append(l, bad()[r.Intn(len(bad()))])
		}
		wantCheck(t, l, Check(l...))
		k, e := Join(l...)
		wantJoin(t, l, k, e)
		for _, k := range l {
			wantBeats(t, k, l[0], Beats(k, l[0]))
			own := uint64(r.Intn(6))
			inc, e := Refute(own, k)
			wantRefute(t, own, k, inc, e)
		}
	}
}
