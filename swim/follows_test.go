package swim

import (
	"math/rand"
	"slices"
	"testing"

	"tattle/api"
	"tattle/msg"
)

// P11.5

// wantFollows fails if, behind a step, a swim may not be, something that it knew is less, or what it says may not be, is not from it, or not to another one.
func wantFollows(t *testing.T, step string, was, s api.Swim, out []api.Msg) {
	t.Helper()
	wantCheck(t, s, api.OK)
	if s.Me != was.Me || len(s.Table) != len(was.Table) {
		t.Fatalf("%s: another swim: %v, %v", step, was, s)
	}
	for who, k := range s.Table {
		if k != was.Table[who] && !slowBeats(k, was.Table[who]) {
			t.Errorf("%s: what is known of %d falls: %v, %v", step, who, was.Table[who], k)
		}
	}
	for _, m := range out {
		if msg.Check(m) != api.OK || m.From != s.Me || m.To == s.Me || m.To < 0 || m.To >= len(s.Table) {
			t.Errorf("%s: %v says %v", step, s, m)
		}
		for _, n := range m.News {
			if n.Who >= len(s.Table) {
				t.Errorf("%s: %v says %v", step, s, m)
			}
		}
	}
}

// walked is a swim that goes from step to step, by what is drawn.
type walked struct {
	g   api.Gossip
	s   api.Swim
	now int64
}

// step does something that is drawn, as the model does.
func (w *walked) step(t *testing.T, r *rand.Rand) {
	n := len(w.s.Table)
	was := w.s
	var out []api.Msg
	var e api.Errno
	switch what := r.Intn(100); {
	case what < 40 || n == 1:
		d := drawnDice(r)
		w.now += int64(r.Intn(3))
		wantTickLikeSlow(t, w.g, w.s, w.now, d)
		w.s, _, out, e = Tick(w.g, w.s, w.now, d)
		wantFollows(t, "Tick", was, w.s, out)
	case what < 90:
		m := drawnMsg(r, w.s)
		wantHearLikeSlow(t, w.g, w.s, w.now, m)
		w.s, out, e = Hear(w.g, w.s, w.now, m)
		wantFollows(t, "Hear", was, w.s, out)
	case what < 99:
		x, by := newsOf(r.Intn(n), drawnKnow(r)), r.Intn(n)
		wantLearnLikeSlow(t, w.g, w.s, x, by, w.now)
		w.s, e = Learn(w.g, w.s, x, by, w.now)
		wantFollows(t, "Learn", was, w.s, nil)
	case r.Intn(4) == 0:
		w.s, e = Leave(w.g, w.s)
		wantFollows(t, "Leave", was, w.s, nil)
	}
	if e != api.OK {
		t.Fatalf("a step of %v at %d: %d", was, w.now, e)
	}
}

func TestStepByStep(t *testing.T) {
	r := rand.New(rand.NewSource(seed))
	for range 150 {
		n := drawnCount(r)
		w := walked{g: drawnGossip(r), now: int64(r.Intn(30))}
		w.s, _ = New(n, r.Intn(n), drawnNumber(r))
		if r.Intn(2) == 0 {
			w.s = drawn(r, n, w.now)
		}
		for range 200 {
			w.step(t, r)
		}
	}
}

// Who is asked by a ping says that it is there by what beats what was held of it, or is it, but where that is of the greatest incarnation.
func TestPingIsAnsweredByWhatBeatsIt(t *testing.T) {
	r := rand.New(rand.NewSource(seed))
	for range 20000 {
		n := max(2, drawnCount(r))
		g, s := drawnGossip(r), drawn(r, n, 20)
		m := drawnMsg(r, s)
		m = api.Msg{Kind: api.PingM, From: m.From, To: m.To, Seq: drawnNumber(r), K: drawnKnow(r), News: m.News}
		x, out, e := Hear(g, s, 20, m)
		if s.Table[s.Me].State == api.Left {
			if len(out) > 0 {
				t.Errorf("who has left answers %v", out)
			}
			continue
		}
		if e != api.OK || len(out) != 1 || out[0].Kind != api.AckM || out[0].To != m.From || out[0].Seq != m.Seq || out[0].Who != s.Me || out[0].K != x.Table[s.Me] {
			t.Fatalf("Hear of %v: %v, %d", m, out, e)
		}
		k := out[0].K
		if k.State != api.Alive || m.K.Inc != greatest && k != m.K && !slowBeats(k, m.K) {
			t.Errorf("a ping by %v is answered by %v", m.K, k)
		}
		if k.Inc < s.Table[s.Me].Inc {
			t.Errorf("an incarnation falls: %v, %v", s.Table[s.Me], k)
		}
	}
}

// An answer comes to what asked for it: both swims know the same of one another then, and who was asked for has answered.
func TestPingAndAck(t *testing.T) {
	g := usual()
	for _, held := range []api.Know{alive(3), suspect(3), dead(3), suspect(5), dead(9), alive(9)} {
		a, b := of(0, alive(7), held), of(1, alive(2), alive(3))
		a, _, out, _ := Tick(g, a, 1, noDice)
		b, back, _ := Hear(g, b, 50, out[0])
		a, more, _ := Hear(g, a, 2, back[0])
		if len(back) != 1 || len(more) > 0 || !a.Probe.Answered || a.Table[1] != b.Table[1] || a.Table[1].State != api.Alive || len(a.Doubts) > 0 {
			t.Errorf("asked by %v: %v, %v", held, a, b)
		}
	}
}

// town is nodes with a swim each, of which some are up, and what is said comes at once, or is lost.
type town struct {
	g     api.Gossip
	r     *rand.Rand
	now   int64
	swims []api.Swim
	up    []bool
	incs  []uint64
	lost  int // of 100 messages
}

func newTown(r *rand.Rand, g api.Gossip, n int) *town {
	w := &town{g: g, r: r, swims: make([]api.Swim, n), up: make([]bool, n), incs: make([]uint64, n)}
	for who := range n {
		w.rise(who)
	}
	return w
}

// rise lets a node begin again, of an incarnation above each that it had.
func (w *town) rise(who int) {
	w.incs[who]++
	w.swims[who], _ = New(len(w.up), who, w.incs[who])
	w.up[who] = true
}

// tick lets each node that is up tick, and hear all that is said.
func (w *town) tick(t *testing.T) {
	t.Helper()
	w.now++
	for who := range w.up {
		if !w.up[who] {
			continue
		}
		octets := make([]byte, 200)
		w.r.Read(octets)
		s, _, out, e := Tick(w.g, w.swims[who], w.now, api.Dice{L: string(octets)})
		if e != api.OK {
			t.Fatalf("Tick of %d: %d", who, e)
		}
		wantFollows(t, "Tick", w.swims[who], s, out)
		w.swims[who] = s
		w.come(t, out)
	}
}

// come lets messages come, and what is said to them.
func (w *town) come(t *testing.T, l []api.Msg) {
	t.Helper()
	for len(l) > 0 {
		m := l[0]
		l = l[1:]
		if !w.up[m.To] || w.r.Intn(100) < w.lost {
			continue
		}
		s, out, e := Hear(w.g, w.swims[m.To], w.now, m)
		if e != api.OK {
			t.Fatalf("Hear of %d: %d", m.To, e)
		}
		wantFollows(t, "Hear", w.swims[m.To], s, out)
		w.swims[m.To] = s
		w.incs[m.To] = max(w.incs[m.To], s.Table[m.To].Inc)
		l = append(l, out...)
	}
}

// wantFound fails if, after so many ticks more, one that is up does not hold each one that is up for alive, and each other one for dead.
func (w *town) wantFound(t *testing.T, ticks int) {
	t.Helper()
	for range ticks {
		w.tick(t)
	}
	for who := range w.up {
		if !w.up[who] {
			continue
		}
		for other, k := range w.swims[who].Table {
			if w.up[other] && k.State != api.Alive || !w.up[other] && k.State != api.Dead {
				t.Errorf("at %d node %d, of %v, holds node %d for %v", w.now, who, w.up, other, k)
			}
		}
	}
}

// bound is how many ticks are enough: twice round all nodes, and each doubt's grace, and news about all of it.
func (w *town) bound() int {
	n := len(w.up)
	bits := digits(n)
	return (4*n+8)*int(w.g.Period) + w.g.R.Min*w.g.R.Most*bits
}

func TestAllAreFound(t *testing.T) {
	r := rand.New(rand.NewSource(seed))
	for range 30 {
		n := 2 + r.Intn(8)
		g := drawnGossip(r)
		if g.Period > 100 {
			g = usual()
		}
		w := newTown(r, g, n)
		w.wantFound(t, w.bound())
		for range 3 {
			// Some fall, and rise, and much is lost.
			w.lost = r.Intn(80)
			for range 30 {
				if who := r.Intn(n); w.up[who] && r.Intn(3) == 0 {
					w.up[who] = false
				} else if !w.up[who] {
					w.rise(who)
				}
				w.tick(t)
			}
			w.lost = 0
			w.wantFound(t, w.bound())
		}
	}
}

// With all 64 nodes, of which a third falls at once.
func TestAllOfManyAreFound(t *testing.T) {
	r := rand.New(rand.NewSource(seed))
	g := usual()
	g.Sync, g.News, g.Factor = 20, 8, 4
	w := newTown(r, g, 64)
	w.wantFound(t, 60)
	for _, who := range r.Perm(64)[:21] {
		w.up[who] = false
	}
	w.wantFound(t, w.bound())
}

// Who leaves is held for one that has left by all, is asked no more, and not held for dead.
func TestWhoLeavesIsFound(t *testing.T) {
	r := rand.New(rand.NewSource(seed))
	g := usual()
	g.Sync = 10
	w := newTown(r, g, 6)
	w.wantFound(t, w.bound())
	gone, e := Leave(g, w.swims[4])
	if e != api.OK {
		t.Fatalf("Leave: %d", e)
	}
	// Somebody must hear of it: who has left says nothing any more.
	w.swims[4] = gone
	w.swims[1], _ = Learn(g, w.swims[1], newsOf(4, gone.Table[4]), 4, w.now)
	for range w.bound() {
		w.tick(t)
	}
	for who, s := range w.swims {
		if s.Table[4].State != api.Left {
			t.Errorf("node %d holds node 4 for %v", who, s.Table[4])
		}
		if who != 4 && !slices.Equal(others(s), slices.DeleteFunc(upTo(6), func(x int) bool { return x == who || x == 4 })) {
			t.Errorf("node %d asks %v", who, others(s))
		}
	}
}

// others are the nodes that a swim may ask.
func others(s api.Swim) []int { return slowOf(usual(), s, 0, noDice).others() }

// roomy is a list that has room for more, of which some is in use elsewhere.
func roomy[T any](l []T, x T) []T {
	return slices.Concat(l, slices.Repeat([]T{x}, 70))[:len(l)]
}

// whole is a list with all that it has room for.
func whole[T any](l []T) []T { return cloneList(l[:cap(l)]) }

// R3: nor is anything written where a list that was handed in has room.
func TestRoomBehindListsStays(t *testing.T) {
	r := rand.New(rand.NewSource(seed))
	for range 1000 {
		n, now := max(2, drawnCount(r)), int64(r.Intn(40))
		g, s := drawnGossip(r), drawn(r, n, now)
		m := drawnMsg(r, s)
		s.Table, s.Told, s.Turn.L, s.Helps = roomy(s.Table, dead(7)), roomy(s.Told, told(1, dead(7), 7)), roomy(s.Turn.L, 1), roomy(s.Helps, help(7, 1, 7, 1, 7))
		s.Doubts = roomy(s.Doubts, doubt(1, 7, 7, 1))
		for at := range s.Doubts {
			s.Doubts[at].By = roomy(s.Doubts[at].By, 1)
		}
		m.News, m.Table = roomy(m.News, newsOf(1, dead(7))), roomy(m.Table, dead(7))
		all := func() api.Swim {
			x := api.Swim{Table: whole(s.Table), Told: whole(s.Told), Turn: api.Turn{L: whole(s.Turn.L)}, Doubts: whole(s.Doubts), Helps: whole(s.Helps)}
			for at := range x.Doubts {
				x.Doubts[at].By = whole(x.Doubts[at].By)
			}
			return x
		}
		was, wasM := all(), []api.Msg{{News: whole(m.News), Table: whole(m.Table)}}
		Check(s)
		Same(s, s)
		Learn(g, s, newsOf(r.Intn(n), drawnKnow(r)), r.Intn(n), now)
		Tick(g, s, now, drawnDice(r))
		Hear(g, s, now, m)
		Leave(g, s)
		if !equal(all(), was) || !equalMsgs([]api.Msg{{News: whole(m.News), Table: whole(m.Table)}}, wasM) {
			t.Fatalf("something is written behind the lists of %v, or %v", s, m)
		}
	}
}

// R3: what was handed in stays as it was, whatever is done with what was answered; R4: the same is answered to the same.
func TestSameAnswersToTheSame(t *testing.T) {
	r := rand.New(rand.NewSource(seed))
	for range 2000 {
		n, now := max(2, drawnCount(r)), int64(r.Intn(40))
		g, s, d := drawnGossip(r), drawn(r, n, now), drawnDice(r)
		m := drawnMsg(r, s)
		x, then, out, _ := Tick(g, s, now, d)
		first, firstOut := clone(x), cloneMsgs(out)
		wantApart(t, "Tick", x, out, s, clone(s))
		y, thenY, outY, _ := Tick(g, s, now, d)
		if !equal(first, y) || then != thenY || !equalMsgs(firstOut, outY) {
			t.Errorf("Tick of %v: %v and %v", s, first, y)
		}
		x, out, _ = Hear(g, s, now, m)
		first, firstOut = clone(x), cloneMsgs(out)
		wantApart(t, "Hear", x, out, s, clone(s))
		y, outY, _ = Hear(g, s, now, m)
		if !equal(first, y) || !equalMsgs(firstOut, outY) {
			t.Errorf("Hear of %v: %v and %v", s, first, y)
		}
	}
}
