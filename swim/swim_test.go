package swim

import (
	"math"
	"math/rand"
	"reflect"
	"slices"
	"testing"

	"tattle/api"
)

// The tests' draws are from this seed, so that a failure comes again.
const seed = 1

// greatest is the greatest number that there is.
const greatest = math.MaxUint64

// last is the last tick that there is.
const last = int64(1) << 40

// Numbers at either end of what may be, and between; and such as may not be.
var (
	edgeNumbers = []uint64{0, 1, 2, 127, 128, 1<<32 - 1, 1 << 32, 1<<63 - 1, 1 << 63, greatest - 1, greatest}
	edgeTicks   = []int64{0, 1, 127, 128, 1<<31 - 1, 1 << 32, last - 1, last}
	badTicks    = []int64{-1, last + 1, -2, last + 2, -last, 2 * last, -1 << 31, -1 << 32, 1 << 62, math.MinInt64, math.MinInt64 + 1, math.MaxInt64 - 1, math.MaxInt64}
	badStates   = []int{-1, 4, 5, -2, 127, 128, 255, 256, 257, -256, 1 << 31, 1 << 32, 1<<32 + 1, -1 << 32, math.MinInt, math.MinInt + 1, math.MaxInt}
)

// badNodes are none of n nodes.
func badNodes(n int) []int {
	return []int{-1, n, n + 1, -2, -n, -n - 1, 64, 65, 127, 128, 256, 1 << 31, -1 << 31, 1 << 32, 1<<32 + 1, -1 << 32, -1<<32 + 1, math.MinInt, math.MinInt + 1, math.MaxInt - 1, math.MaxInt}
}

func known(inc uint64, state int) api.Know { return api.Know{Inc: inc, State: state} }

func alive(inc uint64) api.Know   { return known(inc, 0) }
func suspect(inc uint64) api.Know { return known(inc, 1) }
func dead(inc uint64) api.Know    { return known(inc, 2) }
func left(inc uint64) api.Know    { return known(inc, 3) }

func newsOf(who int, k api.Know) api.News { return api.News{Who: who, K: k} }

func told(who int, k api.Know, often int) api.Told { return api.Told{N: newsOf(who, k), Left: often} }

func doubt(who int, inc uint64, at int64, by ...int) api.Doubt {
	return api.Doubt{Who: who, Inc: inc, At: at, By: by}
}

func asked(who int, seq uint64, at int64) api.Probe {
	return api.Probe{On: true, Who: who, Seq: seq, At: at}
}

func help(seq uint64, who int, at int64, whose int, theirs uint64) api.Help {
	return api.Help{Seq: seq, For: whose, Theirs: theirs, Who: who, At: at}
}

func rules(min, most, all int) api.Rules { return api.Rules{Min: min, Most: most, All: all} }

// usual is gossip that tells no tables. Among 4 to 7 nodes a news is told 6 times, and a grace is 18, 15, 12, 9 and 6 with 0, 1, 2, 3 and more confirmations.
func usual() api.Gossip {
	return api.Gossip{Period: 5, Direct: 2, Helpers: 2, Factor: 2, News: 2, R: rules(2, 3, 4)}
}

// of is a swim that knows so much of all, and has a doubt of each that is suspect, since 0, by node 0.
func of(me int, table ...api.Know) api.Swim {
	s := api.Swim{Me: me, Table: table}
	for who, k := range table {
		if k.State == api.Suspect {
			s.Doubts = append(s.Doubts, doubt(who, k.Inc, 0, 0))
		}
	}
	return s
}

// full is a swim of 6 nodes, of all states, in which each part is something, and no two numbers of a node are the same.
func full() api.Swim {
	return api.Swim{
		Me:     2,
		Table:  []api.Know{alive(10), suspect(11), alive(12), dead(13), left(14), suspect(15)},
		Told:   []api.Told{told(1, suspect(11), 3), told(3, dead(13), 2), told(5, suspect(15), 5)},
		Turn:   api.Turn{L: []int{3, 0, 5, 1}, At: 2},
		Doubts: []api.Doubt{doubt(1, 11, 30, 0, 2), doubt(5, 15, 31, 3)},
		Seq:    20,
		Probe:  api.Probe{On: true, Who: 0, Seq: 19, At: 32, Asked: true},
		Helps:  []api.Help{help(17, 1, 33, 5, 8), help(18, 5, 34, 0, 9)},
	}
}

// upTo are n numbers from 0 on.
func upTo(n int) []int {
	var l []int
	for i := range n {
		l = append(l, i)
	}
	return l
}

// but is a list with something else at a place.
func but[T any](l []T, at int, x T) []T {
	then := slices.Clone(l)
	then[at] = x
	return then
}

// cloneList is a list that has nothing in common with another one; of none, and of an empty one, none.
func cloneList[T any](l []T) []T { return append([]T(nil), l...) }

// clone is a swim that has nothing in common with another one.
func clone(s api.Swim) api.Swim {
	s.Table, s.Told, s.Turn.L, s.Doubts, s.Helps = cloneList(s.Table), cloneList(s.Told), cloneList(s.Turn.L), cloneList(s.Doubts), cloneList(s.Helps)
	for at := range s.Doubts {
		s.Doubts[at].By = cloneList(s.Doubts[at].By)
	}
	return s
}

// with is a swim of which something is changed.
func with(s api.Swim, change func(s *api.Swim)) api.Swim {
	s = clone(s)
	change(&s)
	return s
}

// cloneMsgs are messages that have nothing in common with others.
func cloneMsgs(l []api.Msg) []api.Msg {
	l = cloneList(l)
	for at := range l {
		l[at].News, l[at].Table = cloneList(l[at].News), cloneList(l[at].Table)
	}
	return l
}

func equal(a, b api.Swim) bool { return reflect.DeepEqual(clone(a), clone(b)) }

func equalMsgs(a, b []api.Msg) bool { return reflect.DeepEqual(cloneMsgs(a), cloneMsgs(b)) }

// spoilList writes something else wherever a list has room.
func spoilList[T any](l []T, x T) {
	l = l[:cap(l)]
	for at := range l {
		l[at] = x
	}
}

// spoil writes something else wherever a swim's lists have room.
func spoil(s api.Swim) {
	for _, x := range s.Doubts {
		spoilList(x.By, -7)
	}
	spoilList(s.Table, known(777, -7))
	spoilList(s.Told, told(-7, known(777, -7), -7))
	spoilList(s.Turn.L, -7)
	spoilList(s.Doubts, doubt(-7, 777, -7))
	spoilList(s.Helps, help(777, -7, -7, -7, 777))
}

// spoilMsg does it to a message.
func spoilMsg(m api.Msg) {
	spoilList(m.News, newsOf(-7, known(777, -7)))
	spoilList(m.Table, known(777, -7))
}

// wantApart fails if what was answered shares memory with what was handed in, or one part of it with another one. It is spoilt then.
func wantApart(t *testing.T, call string, x api.Swim, out []api.Msg, s, was api.Swim) {
	t.Helper()
	if !equal(s, was) {
		t.Errorf("%s changed %v to %v", call, was, s)
	}
	then, thenOut := clone(x), cloneMsgs(out)
	for at, m := range out {
		spoilMsg(m)
		if !equal(x, then) || !equalMsgs(out[at+1:], thenOut[at+1:]) {
			t.Errorf("%s: message %d shares memory: %v", call, at, thenOut[at])
		}
	}
	spoil(x)
	if !equal(s, was) {
		t.Errorf("%s of %v shares memory with what it answers", call, was)
	}
}

func wantMay(t *testing.T, g api.Gossip, want api.Errno) {
	t.Helper()
	if e := May(g); e != want {
		t.Errorf("May(%v): %d; want %d", g, e, want)
	}
}

func wantCheck(t *testing.T, s api.Swim, want api.Errno) {
	t.Helper()
	was := clone(s)
	if e := Check(s); e != want {
		t.Errorf("Check(%v): %d; want %d", s, e, want)
	}
	if !equal(s, was) {
		t.Errorf("Check changed %v to %v", was, s)
	}
}

func wantSame(t *testing.T, a, b api.Swim, want bool) {
	t.Helper()
	wasA, wasB := clone(a), clone(b)
	if x := Same(a, b); x != want {
		t.Errorf("Same(%v, %v): %v", a, b, x)
	}
	if x := Same(b, a); x != want {
		t.Errorf("Same(%v, %v): %v", b, a, x)
	}
	if !equal(a, wasA) || !equal(b, wasB) {
		t.Errorf("Same changed %v or %v", wasA, wasB)
	}
}

func wantNew(t *testing.T, n, me int, inc uint64, want api.Swim, wantE api.Errno) {
	t.Helper()
	if s, e := New(n, me, inc); !equal(s, want) || e != wantE {
		t.Errorf("New(%d, %d, %d): %v, %d; want %v, %d", n, me, inc, s, e, want, wantE)
	}
}

func wantLearn(t *testing.T, g api.Gossip, s api.Swim, n api.News, by int, now int64, want api.Swim, wantE api.Errno) {
	t.Helper()
	was := clone(s)
	x, e := Learn(g, s, n, by, now)
	if !equal(x, want) || e != wantE {
		t.Errorf("Learn(%v, %v, %v, %d, %d):\n%v, %d; want\n%v, %d", g, s, n, by, now, x, e, want, wantE)
	}
	wantApart(t, "Learn", x, nil, s, was)
}

func wantLeave(t *testing.T, g api.Gossip, s, want api.Swim, wantE api.Errno) {
	t.Helper()
	was := clone(s)
	x, e := Leave(g, s)
	if !equal(x, want) || e != wantE {
		t.Errorf("Leave(%v, %v):\n%v, %d; want\n%v, %d", g, s, x, e, want, wantE)
	}
	wantApart(t, "Leave", x, nil, s, was)
}

func wantTick(t *testing.T, g api.Gossip, s api.Swim, now int64, d api.Dice, want api.Swim, wantD api.Dice, wantOut []api.Msg, wantE api.Errno) {
	t.Helper()
	was := clone(s)
	x, then, out, e := Tick(g, s, now, d)
	if !equal(x, want) || then != wantD || !equalMsgs(out, wantOut) || e != wantE {
		t.Errorf("Tick(%v, %v, %d, %v):\n%v, %v, %v, %d; want\n%v, %v, %v, %d", g, s, now, d, x, then, out, e, want, wantD, wantOut, wantE)
	}
	wantApart(t, "Tick", x, out, s, was)
}

func wantHear(t *testing.T, g api.Gossip, s api.Swim, now int64, m api.Msg, want api.Swim, wantOut []api.Msg, wantE api.Errno) {
	t.Helper()
	was, wasM := clone(s), cloneMsgs([]api.Msg{m})
	x, out, e := Hear(g, s, now, m)
	if !equal(x, want) || !equalMsgs(out, wantOut) || e != wantE {
		t.Errorf("Hear(%v, %v, %d, %v):\n%v, %v, %d; want\n%v, %v, %d", g, s, now, m, x, out, e, want, wantOut, wantE)
	}
	wantApart(t, "Hear", x, out, s, was)
	if !equalMsgs([]api.Msg{m}, wasM) {
		t.Errorf("Hear shares the message %v with what it answers, or changed it to %v", wasM[0], m)
	}
}

// wantAllRefused fails if a call takes a gossip, a swim, a now, or dice that may not be, or does not answer the swim and the dice as they were.
func wantAllRefused(t *testing.T, g api.Gossip, s api.Swim, now int64) {
	t.Helper()
	d := api.Dice{L: "\x01\x02", At: 1}
	wantLearn(t, g, s, newsOf(0, dead(99)), 0, now, s, api.ErrArg)
	wantTick(t, g, s, now, d, s, d, nil, api.ErrArg)
	for kind := api.PingM; kind <= api.PushM; kind++ {
		wantHear(t, g, s, now, to(s, kind), s, nil, api.ErrArg)
	}
}

// to is a message of a kind to a swim, from another node.
func to(s api.Swim, kind int) api.Msg {
	m := api.Msg{Kind: kind, From: 0, To: s.Me}
	if s.Me == 0 {
		m.From = 1
	}
	if kind == api.PullM || kind == api.PushM {
		m.Table = make([]api.Know, max(1, min(64, len(s.Table))))
	}
	return m
}

// anyOf is one of a list.
func anyOf[T any](r *rand.Rand, l []T) T { return l[r.Intn(len(l))] }

// drawnGossip is gossip, mostly of small numbers.
func drawnGossip(r *rand.Rand) api.Gossip {
	g := api.Gossip{Period: int64(2 + r.Intn(8)), Sync: int64(r.Intn(6)), Helpers: r.Intn(9), Factor: 1 + r.Intn(8), News: r.Intn(9), R: rules(1+r.Intn(3), 1+r.Intn(4), r.Intn(4))}
	g.Direct = 1 + r.Int63n(g.Period-1)
	if r.Intn(20) == 0 {
		g.Period, g.Direct, g.Sync = 1000, 999, 10000
	}
	return g
}

// drawnNumber is a number, mostly a small one.
func drawnNumber(r *rand.Rand) uint64 {
	if r.Intn(12) == 0 {
		return greatest - uint64(r.Intn(3))
	}
	return uint64(r.Intn(4))
}

func drawnKnow(r *rand.Rand) api.Know { return known(drawnNumber(r), r.Intn(4)) }

// drawnNodes are some of n nodes, rising, one at the least.
func drawnNodes(r *rand.Rand, n int) []int {
	l := r.Perm(n)[:1+r.Intn(n)]
	slices.Sort(l)
	return l
}

// drawnDice are dice of few octets, also at their end.
func drawnDice(r *rand.Rand) api.Dice {
	b := make([]byte, r.Intn(10))
	r.Read(b)
	return api.Dice{L: string(b), At: r.Intn(len(b) + 1)}
}

// drawnCount is a count of nodes, mostly a small one.
func drawnCount(r *rand.Rand) int {
	switch r.Intn(30) {
	case 0:
		return 64
	case 1:
		return 1
	}
	return 2 + r.Intn(5)
}

// drawn is a swim of n nodes at about a tick.
func drawn(r *rand.Rand, n int, now int64) api.Swim {
	s := api.Swim{Me: r.Intn(n), Seq: drawnNumber(r)}
	ago := func() int64 { return min(last, max(0, now-int64(r.Intn(12))+2)) }
	for who := range n {
		s.Table = append(s.Table, drawnKnow(r))
		if who == s.Me {
			s.Table[who].State = anyOf(r, []int{0, 0, 0, 0, 0, 0, 0, 3})
		}
		if k := s.Table[who]; k.State == api.Suspect {
			s.Doubts = append(s.Doubts, doubt(who, k.Inc, ago(), drawnNodes(r, n)...))
		}
		if r.Intn(3) == 0 {
			s.Told = append(s.Told, told(who, drawnKnow(r), 1+r.Intn(4)))
		}
	}
	s.Turn.L = r.Perm(n)[:r.Intn(n+1)]
	s.Turn.At = r.Intn(len(s.Turn.L) + 1)
	if n == 1 {
		return s
	}
	other := func() int { return (s.Me + 1 + r.Intn(n-1)) % n }
	if r.Intn(4) > 0 {
		s.Probe = api.Probe{On: true, Who: other(), Seq: drawnNumber(r), At: ago(), Asked: r.Intn(2) == 0, Answered: r.Intn(2) == 0}
	}
	for range anyOf(r, []int{0, 1, 2, 3, 15, 16}) {
		s.Helps = append(s.Helps, help(drawnNumber(r), other(), ago(), other(), drawnNumber(r)))
	}
	return s
}

// drawnMsg is a message to a swim of two nodes or more.
func drawnMsg(r *rand.Rand, s api.Swim) api.Msg {
	n := len(s.Table)
	m := api.Msg{Kind: 1 + r.Intn(6), From: (s.Me + 1 + r.Intn(n-1)) % n, To: s.Me}
	if m.Kind == api.PullM || m.Kind == api.PushM {
		for range n {
			m.Table = append(m.Table, drawnKnow(r))
		}
		return m
	}
	m.Seq = drawnNumber(r)
	if m.Kind == api.PingM || m.Kind == api.AckM {
		m.K = drawnKnow(r)
	}
	if m.Kind != api.PingM {
		m.Who = r.Intn(n)
	}
	if m.Kind != api.NackM {
		for range r.Intn(9) {
			m.News = append(m.News, newsOf(r.Intn(n), drawnKnow(r)))
		}
	}
	// So that some are answers to what was asked.
	if m.Kind == api.AckM && r.Intn(3) > 0 {
		m.Who, m.Seq = s.Probe.Who, s.Probe.Seq
		if len(s.Helps) > 0 && r.Intn(2) == 0 {
			h := anyOf(r, s.Helps)
			m.Who, m.Seq = h.Who, h.Seq
		}
	}
	return m
}
