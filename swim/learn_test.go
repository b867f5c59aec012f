package swim

import (
	"math/rand"
	"slices"
	"testing"

	"tattle/api"
)

// P11.2: Learn.

// wantLearnt fails if what is learnt of node 2 in a swim of four, Me 1, that holds it for something, is not what it is held for, told, and doubted for then.
func wantLearnt(t *testing.T, held, k api.Know, by int, then api.Know, tells bool, doubts ...api.Doubt) {
	t.Helper()
	s := of(1, alive(7), alive(8), held, dead(9))
	want := clone(s)
	want.Table[2] = then
	if tells {
		want.Told = []api.Told{told(2, then, 6)}
	}
	want.Doubts = doubts
	wantLearn(t, usual(), s, newsOf(2, k), by, 5, want, api.OK)
}

func TestLearnOfAnotherOneThatIsAlive(t *testing.T) {
	wantLearnt(t, alive(4), suspect(4), 3, suspect(4), true, doubt(2, 4, 5, 3))
	wantLearnt(t, alive(4), suspect(5), 1, suspect(5), true, doubt(2, 5, 5, 1))
	wantLearnt(t, alive(4), suspect(greatest), 2, suspect(greatest), true, doubt(2, greatest, 5, 2))
	wantLearnt(t, alive(4), suspect(3), 3, alive(4), false)
	wantLearnt(t, alive(4), dead(4), 3, dead(4), true)
	wantLearnt(t, alive(4), dead(3), 3, alive(4), false)
	wantLearnt(t, alive(4), left(4), 3, left(4), true)
	wantLearnt(t, alive(4), alive(4), 3, alive(4), false)
	wantLearnt(t, alive(4), alive(5), 3, alive(5), true)
	wantLearnt(t, alive(4), alive(3), 3, alive(4), false)
	wantLearnt(t, alive(0), suspect(0), 0, suspect(0), true, doubt(2, 0, 5, 0))
}

func TestLearnOfAnotherOneThatIsSuspect(t *testing.T) {
	was := doubt(2, 4, 0, 0)
	wantLearnt(t, suspect(4), suspect(4), 0, suspect(4), false, was)
	wantLearnt(t, suspect(4), suspect(4), 1, suspect(4), false, doubt(2, 4, 0, 0, 1))
	wantLearnt(t, suspect(4), suspect(4), 2, suspect(4), false, doubt(2, 4, 0, 0, 2))
	wantLearnt(t, suspect(4), suspect(4), 3, suspect(4), false, doubt(2, 4, 0, 0, 3))
	wantLearnt(t, suspect(4), suspect(5), 3, suspect(5), true, doubt(2, 5, 5, 3))
	wantLearnt(t, suspect(4), suspect(3), 3, suspect(4), false, was)
	wantLearnt(t, suspect(4), alive(4), 2, suspect(4), false, was)
	wantLearnt(t, suspect(4), alive(5), 2, alive(5), true)
	wantLearnt(t, suspect(4), alive(greatest), 2, alive(greatest), true)
	wantLearnt(t, suspect(4), dead(4), 3, dead(4), true)
	wantLearnt(t, suspect(4), dead(5), 3, dead(5), true)
	wantLearnt(t, suspect(4), dead(3), 3, suspect(4), false, was)
	wantLearnt(t, suspect(4), left(4), 2, left(4), true)
	wantLearnt(t, suspect(4), left(3), 2, suspect(4), false, was)
}

func TestLearnOfAnotherOneThatIsDeadOrHasLeft(t *testing.T) {
	for _, held := range []api.Know{dead(4), left(4)} {
		wantLearnt(t, held, suspect(4), 3, held, false)
		wantLearnt(t, held, alive(4), 2, held, false)
		wantLearnt(t, held, held, 3, held, false)
		wantLearnt(t, held, left(3), 3, held, false)
		wantLearnt(t, held, alive(5), 2, alive(5), true)
		wantLearnt(t, held, suspect(5), 3, suspect(5), true, doubt(2, 5, 5, 3))
		wantLearnt(t, held, dead(5), 3, dead(5), true)
		wantLearnt(t, held, left(5), 3, left(5), true)
	}
	wantLearnt(t, dead(4), left(4), 3, left(4), true)
	wantLearnt(t, left(4), dead(4), 3, left(4), false)
	wantLearnt(t, left(greatest), dead(greatest), 3, left(greatest), false)
}

// Other doubts stay, and so do what is told of others, the turn, and who is asked for.
func TestLearnLeavesAllElse(t *testing.T) {
	g, s := usual(), full()
	wantLearn(t, g, s, newsOf(5, alive(16)), 5, 40, with(s, func(s *api.Swim) {
		s.Table[5] = alive(16)
		s.Told[2] = told(5, alive(16), 6)
		s.Doubts = s.Doubts[:1]
	}), api.OK)
	wantLearn(t, g, s, newsOf(3, suspect(14)), 0, 40, with(s, func(s *api.Swim) {
		s.Table[3] = suspect(14)
		s.Told[1] = told(3, suspect(14), 6)
		s.Doubts = slices.Insert(s.Doubts, 1, doubt(3, 14, 40, 0))
	}), api.OK)
	wantLearn(t, g, s, newsOf(0, dead(10)), 5, 40, with(s, func(s *api.Swim) {
		s.Table[0] = dead(10)
		s.Told = slices.Insert(s.Told, 0, told(0, dead(10), 6))
	}), api.OK)
	// What is known already is told no more often.
	wantLearn(t, g, s, newsOf(1, suspect(11)), 4, 40, with(s, func(s *api.Swim) { s.Doubts[0].By = []int{0, 2, 4} }), api.OK)
}

// What is told already, and is not beaten, stays: what is known need not be what is told.
func TestLearnOfWhatIsTold(t *testing.T) {
	g, s := usual(), of(1, alive(7), alive(8), alive(4), alive(9))
	for _, x := range []api.Know{alive(6), dead(5), suspect(5), left(greatest)} {
		s.Told = []api.Told{told(2, x, 1)}
		wantLearn(t, g, s, newsOf(2, suspect(5)), 3, 9, with(s, func(s *api.Swim) {
			s.Table[2] = suspect(5)
			s.Doubts = []api.Doubt{doubt(2, 5, 9, 3)}
		}), api.OK)
	}
	for _, x := range []api.Know{alive(5), dead(4), left(4), alive(0)} {
		s.Told = []api.Told{told(2, x, 1)}
		wantLearn(t, g, s, newsOf(2, suspect(5)), 3, 9, with(s, func(s *api.Swim) {
			s.Table[2] = suspect(5)
			s.Told = []api.Told{told(2, suspect(5), 6)}
			s.Doubts = []api.Doubt{doubt(2, 5, 9, 3)}
		}), api.OK)
	}
	s.Told = []api.Told{told(1, alive(20), 1)}
	wantLearn(t, g, s, newsOf(1, dead(12)), 3, 9, with(s, func(s *api.Swim) { s.Table[1] = alive(13) }), api.OK)
}

// How often something is told, by the factor and how many nodes there are.
func TestLearnTellsByFactorAndNodes(t *testing.T) {
	for n, bits := range map[int]int{2: 2, 3: 2, 4: 3, 7: 3, 8: 4, 15: 4, 16: 5, 31: 5, 32: 6, 63: 6, 64: 7} {
		for factor := 1; factor <= 8; factor++ {
			g := usual()
			g.Factor = factor
			s := api.Swim{Table: make([]api.Know, n)}
			k := api.Know{Inc: 1, State: 2}
			wantLearn(t, g, s, newsOf(n-1, k), 0, 0, with(s, func(s *api.Swim) {
				s.Table[n-1] = k
				s.Told = []api.Told{told(n-1, k, factor*bits)}
			}), api.OK)
			wantLearn(t, g, s, newsOf(0, k), 1, 0, with(s, func(s *api.Swim) {
				s.Table[0] = alive(2)
				s.Told = []api.Told{told(0, alive(2), factor*bits)}
			}), api.OK)
		}
	}
	// Nodes that are dead, or have left, count as well.
	s := of(0, alive(0), dead(0), left(0), dead(0), left(0))
	wantLearn(t, usual(), s, newsOf(2, left(1)), 1, 0, with(s, func(s *api.Swim) {
		s.Table[2] = left(1)
		s.Told = []api.Told{told(2, left(1), 6)}
	}), api.OK)
}

// wantLearntOfMe fails if node 1, Alive of own, is not Alive of then, by what it learns of itself, and tells that if it is another one.
func wantLearntOfMe(t *testing.T, own uint64, k api.Know, then uint64) {
	t.Helper()
	s := of(1, alive(7), alive(own), suspect(4), dead(9))
	s.Told = []api.Told{told(2, suspect(4), 1)}
	want := clone(s)
	want.Table[1].Inc = then
	if then != own {
		want.Told = []api.Told{told(1, alive(then), 6), told(2, suspect(4), 1)}
	}
	for by := range 4 {
		wantLearn(t, usual(), s, newsOf(1, k), by, 5, want, api.OK)
	}
}

func TestLearnOfMe(t *testing.T) {
	for state := range 4 {
		wantLearntOfMe(t, 8, known(0, state), 8)
		wantLearntOfMe(t, 8, known(7, state), 8)
		wantLearntOfMe(t, 8, known(9, state), 10)
		wantLearntOfMe(t, 8, known(900, state), 901)
		wantLearntOfMe(t, 8, known(greatest-1, state), greatest)
		// Above the greatest there is none to answer by.
		wantLearntOfMe(t, 8, known(greatest, state), 8)
		wantLearntOfMe(t, greatest-1, known(greatest, state), greatest-1)
		wantLearntOfMe(t, greatest, known(greatest, state), greatest)
		wantLearntOfMe(t, greatest, known(greatest-1, state), greatest)
		wantLearntOfMe(t, 0, known(1, state), 2)
	}
	wantLearntOfMe(t, 8, alive(8), 8)
	wantLearntOfMe(t, 8, suspect(8), 9)
	wantLearntOfMe(t, 8, dead(8), 9)
	wantLearntOfMe(t, 8, left(8), 9)
	wantLearntOfMe(t, 0, alive(0), 0)
	wantLearntOfMe(t, 0, suspect(0), 1)
	wantLearntOfMe(t, greatest-1, dead(greatest-1), greatest)
}

// Who has left learns of others, but answers nothing that is told of itself.
func TestLearnOfOneThatHasLeft(t *testing.T) {
	s := of(1, alive(7), left(8), suspect(4), dead(9))
	for _, inc := range []uint64{0, 7, 8, 9, greatest - 1, greatest} {
		for state := range 4 {
			for by := range 4 {
				wantLearn(t, usual(), s, newsOf(1, known(inc, state)), by, 5, s, api.OK)
			}
		}
	}
	wantLearn(t, usual(), s, newsOf(2, suspect(4)), 3, 5, with(s, func(s *api.Swim) { s.Doubts[0].By = []int{0, 3} }), api.OK)
	wantLearn(t, usual(), s, newsOf(0, dead(7)), 3, 5, with(s, func(s *api.Swim) {
		s.Table[0] = dead(7)
		s.Told = []api.Told{told(0, dead(7), 6)}
	}), api.OK)
}

func TestLearnOfWhatMayNotBe(t *testing.T) {
	g := usual()
	for _, s := range []api.Swim{full(), with(full(), func(s *api.Swim) { s.Table[2] = left(12) })} {
		for _, bad := range badNodes(6) {
			for _, k := range []api.Know{alive(0), suspect(11), dead(99)} {
				wantLearn(t, g, s, newsOf(bad, k), 1, 40, s, api.ErrArg)
				wantLearn(t, g, s, newsOf(1, k), bad, 40, s, api.ErrArg)
				wantLearn(t, g, s, newsOf(2, k), bad, 40, s, api.ErrArg)
				wantLearn(t, g, s, newsOf(bad, k), bad, 40, s, api.ErrArg)
			}
		}
		for _, state := range badStates {
			for _, inc := range []uint64{0, 11, 12, greatest} {
				for who := range 6 {
					wantLearn(t, g, s, newsOf(who, known(inc, state)), 0, 40, s, api.ErrArg)
				}
			}
		}
		for _, now := range badTicks {
			wantLearn(t, g, s, newsOf(1, suspect(11)), 0, now, s, api.ErrArg)
			wantLearn(t, g, s, newsOf(2, dead(99)), 0, now, s, api.ErrArg)
			wantLearn(t, g, s, newsOf(0, dead(99)), 0, now, s, api.ErrArg)
		}
	}
}

func TestLearnAtEachTick(t *testing.T) {
	s := of(1, alive(7), alive(8), alive(4), dead(9))
	for _, now := range edgeTicks {
		wantLearn(t, usual(), s, newsOf(2, suspect(4)), 3, now, with(s, func(s *api.Swim) {
			s.Table[2] = suspect(4)
			s.Told = []api.Told{told(2, suspect(4), 6)}
			s.Doubts = []api.Doubt{doubt(2, 4, now, 3)}
		}), api.OK)
	}
}

func TestLearnAlone(t *testing.T) {
	s := of(0, alive(3))
	wantLearn(t, usual(), s, newsOf(0, dead(5)), 0, 0, api.Swim{Table: []api.Know{alive(6)}, Told: []api.Told{told(0, alive(6), 2)}}, api.OK)
	wantLearn(t, usual(), s, newsOf(0, alive(3)), 0, 0, s, api.OK)
	wantLearn(t, usual(), s, newsOf(1, dead(5)), 0, 0, s, api.ErrArg)
	wantLearn(t, usual(), s, newsOf(0, dead(5)), 1, 0, s, api.ErrArg)
}

// wantLearnLikeSlow fails if Learn does otherwise than the chapter tells.
func wantLearnLikeSlow(t *testing.T, g api.Gossip, s api.Swim, n api.News, by int, now int64) {
	t.Helper()
	w := slowOf(g, s, now, api.Dice{})
	w.learn(n, by)
	wantLearn(t, g, s, n, by, now, w.swim(), api.OK)
}

// Of each that is known, each that is told, by each.
func TestLearnOfEach(t *testing.T) {
	var l []api.Know
	for _, inc := range []uint64{0, 1, 2, 3, greatest - 1, greatest} {
		for state := range 4 {
			l = append(l, known(inc, state))
		}
	}
	for _, held := range l {
		for _, k := range l {
			for by := range 3 {
				wantLearnLikeSlow(t, usual(), of(0, alive(2), alive(2), held), newsOf(2, k), by, 7)
				if held.State == api.Alive || held.State == api.Left {
					wantLearnLikeSlow(t, usual(), of(2, alive(2), suspect(2), held), newsOf(2, k), by, 7)
				}
			}
		}
	}
}

func TestLearnOfDrawn(t *testing.T) {
	r := rand.New(rand.NewSource(seed))
	for range 10000 {
		n, now := drawnCount(r), int64(r.Intn(40))
		wantLearnLikeSlow(t, drawnGossip(r), drawn(r, n, now), newsOf(r.Intn(n), drawnKnow(r)), r.Intn(n), now)
	}
}

// P11.2: Leave.

func TestLeave(t *testing.T) {
	s := of(1, alive(7), alive(8), suspect(4), dead(9))
	gone := with(s, func(s *api.Swim) {
		s.Table[1] = left(8)
		s.Told = []api.Told{told(1, left(8), 6)}
	})
	wantLeave(t, usual(), s, gone, api.OK)
	wantLeave(t, usual(), gone, gone, api.OK)
	// Once it is told no more, it is not told again.
	silent := with(gone, func(s *api.Swim) { s.Told = nil })
	wantLeave(t, usual(), silent, silent, api.OK)
	wantLeave(t, usual(), of(0, alive(greatest)), api.Swim{Table: []api.Know{left(greatest)}, Told: []api.Told{told(0, left(greatest), 2)}}, api.OK)
	wantLeave(t, usual(), of(0, left(0)), of(0, left(0)), api.OK)
}

func TestLeaveTellsInPlaceOfWhatItBeats(t *testing.T) {
	g := usual()
	s := with(full(), func(s *api.Swim) { s.Told[1] = told(2, alive(12), 1) })
	wantLeave(t, g, s, with(s, func(s *api.Swim) {
		s.Table[2] = left(12)
		s.Told[1] = told(2, left(12), 6)
	}), api.OK)
	for _, x := range []api.Know{left(12), alive(13), dead(greatest)} {
		s = with(full(), func(s *api.Swim) { s.Told[1] = told(2, x, 1) })
		wantLeave(t, g, s, with(s, func(s *api.Swim) { s.Table[2] = left(12) }), api.OK)
	}
}

func TestLeaveOfDrawn(t *testing.T) {
	r := rand.New(rand.NewSource(seed))
	for range 3000 {
		g, s := drawnGossip(r), drawn(r, drawnCount(r), 20)
		w := slowOf(g, s, 0, api.Dice{})
		if own := w.held[w.me]; own.State != 3 {
			w.held[w.me] = left(own.Inc)
			w.tell(newsOf(w.me, left(own.Inc)))
		}
		wantLeave(t, g, s, w.swim(), api.OK)
	}
}
