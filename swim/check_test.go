package swim

import (
	"math"
	"math/rand"
	"slices"
	"testing"

	"tattle/api"
)

// P11.1: May.

// gossips are two gossips whose numbers are the least, and the greatest, and a usual one.
func gossips() []api.Gossip {
	return []api.Gossip{
		{Period: 2, Direct: 1, Factor: 1, R: rules(1, 1, 0)},
		{Period: 1000, Direct: 999, Sync: 10000, Helpers: 8, Factor: 8, News: 8, R: rules(1000, 20, 10)},
		usual(),
	}
}

// ok is OK, if it is no less, and no more.
func ok[T int | int64](x, least, most T) api.Errno {
	if x < least || x > most {
		return api.ErrArg
	}
	return api.OK
}

// far are numbers that no part of gossip may be.
var far = []int64{-1, 10001, -2, 1 << 31, -1 << 31, 1 << 32, 1<<32 + 1, 1<<32 + 5, -1 << 32, -1<<32 + 5, last, math.MinInt64, math.MinInt64 + 1, math.MinInt64 + 5, math.MaxInt64 - 1, math.MaxInt64}

func TestMayOfEachPart(t *testing.T) {
	wantMay(t, api.Gossip{}, api.ErrArg)
	for _, g := range gossips() {
		wantMay(t, g, api.OK)
		for n := int64(-20); n <= 10020; n++ {
			wantMayOfPart(t, g, n)
		}
		for _, n := range far {
			wantMayOfPart(t, g, n)
		}
	}
}

// wantMayOfPart fails if May finds otherwise than the chapter says of a gossip of which one part is another number.
func wantMayOfPart(t *testing.T, g api.Gossip, n int64) {
	t.Helper()
	x := g
	x.Sync = n
	wantMay(t, x, ok(n, 0, 10000))
	x = g
	x.Period = n
	wantMay(t, x, ok(n, g.Direct+1, 1000))
	x = g
	x.Direct = n
	wantMay(t, x, ok(n, 1, g.Period-1))
	x = g
	x.Helpers = int(n)
	wantMay(t, x, ok(n, 0, 8))
	x = g
	x.Factor = int(n)
	wantMay(t, x, ok(n, 1, 8))
	x = g
	x.News = int(n)
	wantMay(t, x, ok(n, 0, 8))
}

func TestMayOfEachPeriodAndDirect(t *testing.T) {
	g := usual()
	for _, period := range append([]int64{0, 1, 2, 3, 4, 999, 1000, 1001, 1002, -1000}, far...) {
		for _, direct := range append([]int64{0, 1, 2, 3, 4, 998, 999, 1000, 1001, -1000, period - 2, period - 1, period, period + 1}, far...) {
			g.Period, g.Direct = period, direct
			want := api.ErrArg
			if period >= 2 && period <= 1000 && direct >= 1 && direct < period {
				want = api.OK
			}
			wantMay(t, g, want)
		}
	}
}

// badRules are rules that may not be by layer 9.
var badRules = []api.Rules{{}, rules(0, 2, 1), rules(1001, 2, 1), rules(-1, 2, 1), rules(2, 0, 1), rules(2, 21, 1), rules(2, -1, 1), rules(2, 2, -1), rules(2, 2, 11), rules(math.MinInt, 2, 1), rules(2, math.MaxInt, 1), rules(2, 2, 1<<32)}

func TestMayOfRulesThatMayNotBe(t *testing.T) {
	for _, g := range gossips() {
		for _, r := range badRules {
			g.R = r
			wantMay(t, g, api.ErrArg)
		}
		for _, r := range []api.Rules{rules(1, 1, 0), rules(1000, 20, 10), rules(1, 20, 10), rules(1000, 1, 0)} {
			g.R = r
			wantMay(t, g, api.OK)
		}
	}
}

// badGossips are gossips of which one part may not be.
func badGossips() []api.Gossip {
	l := []api.Gossip{{}}
	put := func(change func(g *api.Gossip)) {
		g := usual()
		change(&g)
		l = append(l, g)
	}
	for _, n := range []int64{1, 2, 1001, 0, -1, math.MaxInt64, math.MinInt64} {
		put(func(g *api.Gossip) { g.Period = n })
	}
	for _, n := range []int64{0, 5, 6, -1, math.MaxInt64, math.MinInt64} {
		put(func(g *api.Gossip) { g.Direct = n })
	}
	for _, n := range []int64{-1, 10001, math.MaxInt64, math.MinInt64} {
		put(func(g *api.Gossip) { g.Sync = n })
	}
	for _, n := range []int{-1, 9, math.MaxInt, math.MinInt} {
		put(func(g *api.Gossip) { g.Helpers = n })
		put(func(g *api.Gossip) { g.Factor = n })
		put(func(g *api.Gossip) { g.News = n })
	}
	put(func(g *api.Gossip) { g.Factor = 0 })
	for _, r := range badRules {
		put(func(g *api.Gossip) { g.R = r })
	}
	return l
}

func TestGossipThatMayNotBe(t *testing.T) {
	for _, g := range badGossips() {
		wantMay(t, g, api.ErrArg)
		for _, s := range []api.Swim{full(), of(0, alive(1), alive(2)), of(1, alive(1), left(2))} {
			wantAllRefused(t, g, s, 40)
			wantLeave(t, g, s, s, api.ErrArg)
		}
	}
}

// P11.1: New.

func TestNew(t *testing.T) {
	wantNew(t, 3, 0, 4, api.Swim{Table: []api.Know{alive(4), alive(0), alive(0)}}, api.OK)
	for _, n := range []int{1, 2, 3, 63, 64} {
		for me := range n {
			for _, inc := range edgeNumbers {
				table := make([]api.Know, n)
				table[me].Inc = inc
				wantNew(t, n, me, inc, api.Swim{Me: me, Table: table}, api.OK)
				s, _ := New(n, me, inc)
				wantCheck(t, s, api.OK)
			}
		}
		for _, me := range badNodes(n) {
			if me < 0 || me >= n {
				wantNew(t, n, me, 1, api.Swim{}, api.ErrArg)
				wantNew(t, n, me, greatest, api.Swim{}, api.ErrArg)
			}
		}
	}
}

func TestNewOfTooFewOrTooMany(t *testing.T) {
	for _, n := range []int{0, 65, -1, 66, -2, -64, 127, 128, 256, 257, 1 << 31, -1 << 31, 1 << 32, 1<<32 + 1, 1<<32 + 64, -1<<32 + 1, math.MinInt, math.MinInt + 1, math.MaxInt - 1, math.MaxInt} {
		for _, me := range []int{0, 1, -1, 63, 64, n, n - 1, -n, math.MinInt, math.MaxInt} {
			wantNew(t, n, me, 0, api.Swim{}, api.ErrArg)
			wantNew(t, n, me, 5, api.Swim{}, api.ErrArg)
		}
	}
}

// P11.1: Check.

// checked is a change of a swim, and whether it may be then.
type checked struct {
	name   string
	may    bool
	change func(s *api.Swim)
}

// wantCheckAll fails if Check finds otherwise of a swim with each change.
func wantCheckAll(t *testing.T, s api.Swim, l []checked) {
	t.Helper()
	wantCheck(t, s, api.OK)
	for _, c := range l {
		x := with(s, c.change)
		want := api.ErrArg
		if c.may {
			want = api.OK
		}
		if e := Check(x); e != want {
			t.Errorf("Check with %s: %v: %d; want %d", c.name, x, e, want)
		}
	}
}

func TestCheckOfFewAndMany(t *testing.T) {
	wantCheck(t, api.Swim{}, api.ErrArg)
	for n := 1; n <= 64; n++ {
		for _, me := range []int{0, n / 2, n - 1} {
			s := api.Swim{Me: me, Table: make([]api.Know, n)}
			wantCheck(t, s, api.OK)
			s.Table[me] = left(greatest)
			wantCheck(t, s, api.OK)
			s.Turn = api.Turn{L: upTo(n), At: n}
			for who := range n {
				s.Told = append(s.Told, told(who, known(uint64(who), who%4), 1+who))
				if who != me {
					s.Table[who] = suspect(uint64(who))
					s.Doubts = append(s.Doubts, doubt(who, uint64(who), last, upTo(n)...))
				}
			}
			wantCheck(t, s, api.OK)
		}
	}
	wantCheck(t, api.Swim{Table: make([]api.Know, 65)}, api.ErrArg)
	wantCheck(t, api.Swim{Table: make([]api.Know, 1000)}, api.ErrArg)
	wantCheck(t, api.Swim{Table: []api.Know{}}, api.ErrArg)
}

func TestCheckOfATable(t *testing.T) {
	var l []checked
	for at := range 6 {
		for _, state := range badStates {
			l = append(l, checked{"a state that is none", false, func(s *api.Swim) { s.Table[at].State = state }})
		}
		for state := range 4 {
			may := state == full().Table[at].State || state != api.Suspect && full().Table[at].State != api.Suspect
			if at == 2 {
				may = state == api.Alive || state == api.Left
			}
			l = append(l, checked{"another state", may, func(s *api.Swim) { s.Table[at].State = state }})
		}
		for _, inc := range edgeNumbers {
			l = append(l, checked{"another incarnation", full().Table[at].State != api.Suspect, func(s *api.Swim) { s.Table[at].Inc = inc }})
		}
	}
	for n := range 6 {
		l = append(l, checked{"fewer nodes than are named", false, func(s *api.Swim) { s.Table = s.Table[:n] }})
	}
	for _, n := range []int{1, 58, 59, 60, 1000} {
		l = append(l, checked{"more nodes than are named", n <= 58, func(s *api.Swim) { s.Table = append(s.Table, make([]api.Know, n)...) }})
	}
	l = append(l, checked{"one more that is suspect", false, func(s *api.Swim) { s.Table = append(s.Table, suspect(0)) }})
	wantCheckAll(t, full(), l)
}

func TestCheckOfMe(t *testing.T) {
	var l []checked
	for _, me := range badNodes(6) {
		l = append(l, checked{"no node", false, func(s *api.Swim) { s.Me = me }})
	}
	for me := range 6 {
		// Node 0 is asked for, and there are helps for nodes 0 and 5, of nodes 1 and 5; node 3 is dead, and node 4 has left.
		l = append(l, checked{"another one", me == 2 || me == 4, func(s *api.Swim) { s.Me = me }})
		bare := full()
		bare.Probe, bare.Helps = api.Probe{}, nil
		wantCheckAll(t, bare, []checked{{"another one", me == 0 || me == 2 || me == 4, func(s *api.Swim) { s.Me = me }}})
	}
	l = append(l,
		checked{"Me left", true, func(s *api.Swim) { s.Table[2] = left(12) }},
		checked{"Me dead", false, func(s *api.Swim) { s.Table[2] = dead(12) }},
		checked{"Me suspect", false, func(s *api.Swim) { s.Table[2] = suspect(12) }},
		checked{"Me suspect, with a doubt", false, func(s *api.Swim) {
			s.Table[2] = suspect(12)
			s.Doubts = slices.Insert(s.Doubts, 1, doubt(2, 12, 5, 0))
		}},
		checked{"a doubt of Me, who is alive", false, func(s *api.Swim) { s.Doubts = slices.Insert(s.Doubts, 1, doubt(2, 12, 5, 0)) }},
		checked{"a doubt of Me, of a lesser incarnation", false, func(s *api.Swim) { s.Doubts = slices.Insert(s.Doubts, 1, doubt(2, 11, 5, 0)) }},
	)
	wantCheckAll(t, full(), l)
	wantCheck(t, api.Swim{Me: 1, Table: []api.Know{alive(0)}}, api.ErrArg)
	wantCheck(t, api.Swim{Me: 64, Table: make([]api.Know, 64)}, api.ErrArg)
}

func TestCheckOfToldAndTurn(t *testing.T) {
	var l []checked
	for _, who := range badNodes(6) {
		l = append(l,
			checked{"told of a node that is none", false, func(s *api.Swim) { s.Told = []api.Told{told(who, alive(1), 1)} }},
			checked{"a turn of a node that is none", false, func(s *api.Swim) { s.Turn.L[1] = who }})
		for at := range 3 {
			l = append(l, checked{"told of a node that is none", false, func(s *api.Swim) { s.Told[at].N.Who = who }})
		}
	}
	for who := range 6 {
		for state := range 4 {
			l = append(l, checked{"told of one", true, func(s *api.Swim) { s.Told = []api.Told{told(who, known(greatest, state), 64)} }})
		}
		l = append(l,
			checked{"a turn of one", true, func(s *api.Swim) { s.Turn = api.Turn{L: []int{who}, At: 1} }},
			checked{"a turn of one twice", false, func(s *api.Swim) { s.Turn = api.Turn{L: []int{who, who}, At: 1} }},
			checked{"told of one twice", false, func(s *api.Swim) { s.Told = []api.Told{told(who, alive(1), 1), told(who, alive(2), 2)} }})
	}
	for at := range 3 {
		for _, often := range []int{0, 65, -1, 66, math.MinInt, math.MaxInt} {
			l = append(l, checked{"told too seldom, or too often", false, func(s *api.Swim) { s.Told[at].Left = often }})
		}
		for _, state := range badStates {
			l = append(l, checked{"told what may not be", false, func(s *api.Swim) { s.Told[at].N.K.State = state }})
		}
		l = append(l,
			checked{"told once", true, func(s *api.Swim) { s.Told[at].Left = 1 }},
			checked{"told 64 times", true, func(s *api.Swim) { s.Told[at].Left = 64 }})
	}
	for _, at := range []int{-1, 5, 6, math.MinInt, math.MaxInt} {
		l = append(l, checked{"a turn that is too far", false, func(s *api.Swim) { s.Turn.At = at }})
	}
	for at := range 5 {
		l = append(l, checked{"a turn that is so far", true, func(s *api.Swim) { s.Turn.At = at }})
	}
	l = append(l,
		checked{"nothing told", true, func(s *api.Swim) { s.Told = nil }},
		checked{"no turn", true, func(s *api.Swim) { s.Turn = api.Turn{} }},
		checked{"a turn of none that is too far", false, func(s *api.Swim) { s.Turn = api.Turn{At: 1} }},
		checked{"a turn of all", true, func(s *api.Swim) { s.Turn = api.Turn{L: []int{5, 4, 3, 2, 1, 0}, At: 6} }},
		checked{"told in another order", false, func(s *api.Swim) { slices.Reverse(s.Told) }})
	wantCheckAll(t, full(), l)
}

func TestCheckOfDoubts(t *testing.T) {
	var l []checked
	for _, who := range badNodes(6) {
		l = append(l,
			checked{"a doubt of a node that is none", false, func(s *api.Swim) { s.Doubts[0].Who = who }},
			checked{"a doubt of a node that is none", false, func(s *api.Swim) { s.Doubts[1].Who = who }},
			checked{"one more doubt of a node that is none", false, func(s *api.Swim) { s.Doubts = append(s.Doubts, doubt(who, 0, 0, 0)) }},
			checked{"a doubt by a node that is none", false, func(s *api.Swim) { s.Doubts[0].By[1] = who }},
			checked{"a doubt by a node that is none", false, func(s *api.Swim) { s.Doubts[1].By = []int{who} }})
	}
	for _, at := range badTicks {
		l = append(l,
			checked{"a doubt since what is no tick", false, func(s *api.Swim) { s.Doubts[0].At = at }},
			checked{"a doubt since what is no tick", false, func(s *api.Swim) { s.Doubts[1].At = at }})
	}
	for _, at := range edgeTicks {
		l = append(l, checked{"a doubt since a tick", true, func(s *api.Swim) { s.Doubts[1].At = at }})
	}
	for _, inc := range append([]uint64{10, 12, 14, 16}, edgeNumbers...) {
		l = append(l,
			checked{"a doubt of another incarnation", false, func(s *api.Swim) { s.Doubts[0].Inc = inc }},
			checked{"a doubt of another incarnation", false, func(s *api.Swim) { s.Doubts[1].Inc = inc }})
	}
	for by := range 6 {
		l = append(l, checked{"a doubt by a node", true, func(s *api.Swim) { s.Doubts[0].By = []int{by} }})
	}
	for _, x := range []api.Doubt{doubt(0, 10, 5, 0), doubt(3, 13, 5, 0), doubt(4, 14, 5, 0), doubt(3, 0, 5, 0), doubt(0, greatest, 5, 0)} {
		at := 0
		if x.Who > 1 {
			at = 1
		}
		l = append(l,
			checked{"a doubt of one that is not suspect", false, func(s *api.Swim) { s.Doubts = slices.Insert(s.Doubts, at, x) }},
			// As many as are suspect, but of another one.
			checked{"a doubt of one that is not suspect, and none of one that is", false, func(s *api.Swim) { s.Doubts[at] = x }})
	}
	l = append(l,
		checked{"one suspect without a doubt", false, func(s *api.Swim) { s.Doubts = s.Doubts[:1] }},
		checked{"one suspect without a doubt", false, func(s *api.Swim) { s.Doubts = s.Doubts[1:] }},
		checked{"no doubts", false, func(s *api.Swim) { s.Doubts = nil }},
		checked{"no doubts, and none suspect", true, func(s *api.Swim) { s.Doubts, s.Table[1], s.Table[5] = nil, alive(1), dead(1) }},
		checked{"one doubt, and one suspect", true, func(s *api.Swim) { s.Doubts, s.Table[5] = s.Doubts[:1], left(3) }},
		checked{"a doubt by nobody", false, func(s *api.Swim) { s.Doubts[0].By = nil }},
		checked{"a doubt by one twice", false, func(s *api.Swim) { s.Doubts[0].By = []int{3, 3} }},
		checked{"a doubt by two that fall", false, func(s *api.Swim) { s.Doubts[0].By = []int{2, 0} }},
		checked{"a doubt twice", false, func(s *api.Swim) { s.Doubts = append(s.Doubts, s.Doubts[1]) }},
		checked{"doubts in another order", false, func(s *api.Swim) { slices.Reverse(s.Doubts) }})
	wantCheckAll(t, full(), l)
}

func TestCheckOfAProbe(t *testing.T) {
	var l []checked
	for _, p := range []api.Probe{{Who: 1}, {Seq: 1}, {At: 1}, {Asked: true}, {Answered: true}, {Who: 1, Seq: 3, At: 5}, {Seq: greatest}, {At: last}} {
		off, on := p, p
		off.Who, on.Who, on.On = 1, 1, true
		l = append(l,
			checked{"one that is off, and not zero", false, func(s *api.Swim) { s.Probe = p }},
			checked{"one that is off, and not zero", false, func(s *api.Swim) { s.Probe = off }},
			checked{"one that is on", true, func(s *api.Swim) { s.Probe = on }})
	}
	for _, who := range append(badNodes(6), 2) {
		l = append(l, checked{"one of Me, or none", false, func(s *api.Swim) { s.Probe.Who = who }},
			checked{"one of Me, or none", false, func(s *api.Swim) { s.Probe = api.Probe{On: true, Who: who} }})
	}
	for _, who := range []int{0, 1, 3, 4, 5} {
		l = append(l, checked{"one of another node", true, func(s *api.Swim) { s.Probe.Who = who }},
			checked{"one of another node", true, func(s *api.Swim) { s.Probe = api.Probe{On: true, Who: who} }})
	}
	for _, at := range badTicks {
		l = append(l, checked{"one since what is no tick", false, func(s *api.Swim) { s.Probe.At = at }})
	}
	for _, at := range edgeTicks {
		l = append(l, checked{"one since a tick", true, func(s *api.Swim) { s.Probe.At = at }})
	}
	for _, seq := range edgeNumbers {
		l = append(l, checked{"any number", true, func(s *api.Swim) { s.Probe.Seq, s.Seq = seq, seq }})
	}
	l = append(l,
		checked{"none", true, func(s *api.Swim) { s.Probe = api.Probe{} }},
		checked{"off", false, func(s *api.Swim) { s.Probe.On = false }},
		checked{"one answered", true, func(s *api.Swim) { s.Probe.Answered = true }},
		checked{"one not asked by others", true, func(s *api.Swim) { s.Probe.Asked = false }})
	wantCheckAll(t, full(), l)
	// Alone there is nobody to be asked.
	wantCheck(t, api.Swim{Table: []api.Know{{}}, Probe: api.Probe{On: true}}, api.ErrArg)
	wantCheck(t, api.Swim{Table: []api.Know{{}}, Probe: api.Probe{On: true, Who: 1}}, api.ErrArg)
}

func TestCheckOfHelps(t *testing.T) {
	var l []checked
	for at := range 2 {
		for _, who := range append(badNodes(6), 2) {
			l = append(l,
				checked{"a help of Me, or none", false, func(s *api.Swim) { s.Helps[at].Who = who }},
				checked{"a help for Me, or none", false, func(s *api.Swim) { s.Helps[at].For = who }})
		}
		for _, who := range []int{0, 1, 3, 4, 5} {
			l = append(l,
				checked{"a help of another one", true, func(s *api.Swim) { s.Helps[at].Who = who }},
				checked{"a help for another one", true, func(s *api.Swim) { s.Helps[at].For = who }})
		}
		for _, tick := range badTicks {
			l = append(l, checked{"a help since what is no tick", false, func(s *api.Swim) { s.Helps[at].At = tick }})
		}
		for _, tick := range edgeTicks {
			l = append(l, checked{"a help since a tick", true, func(s *api.Swim) { s.Helps[at].At = tick }})
		}
		for _, n := range edgeNumbers {
			l = append(l, checked{"any numbers", true, func(s *api.Swim) { s.Helps[at].Seq, s.Helps[at].Theirs = n, greatest-n }})
		}
	}
	for _, n := range []int{0, 1, 15, 16, 17, 18, 64, 1000} {
		l = append(l, checked{"so many", n <= 16, func(s *api.Swim) { s.Helps = slices.Repeat([]api.Help{help(17, 1, 33, 5, 8)}, n) }})
	}
	for at := range 16 {
		x := slices.Repeat([]api.Help{help(17, 1, 33, 5, 8)}, 16)
		l = append(l,
			checked{"a help of Me at a place", false, func(s *api.Swim) { s.Helps = but(x, at, help(1, 2, 3, 4, 5)) }},
			checked{"a help for Me at a place", false, func(s *api.Swim) { s.Helps = but(x, at, help(1, 4, 3, 2, 5)) }},
			checked{"a help since no tick at a place", false, func(s *api.Swim) { s.Helps = but(x, at, help(1, 4, -1, 3, 5)) }})
	}
	wantCheckAll(t, full(), l)
	wantCheck(t, api.Swim{Table: []api.Know{{}}, Helps: []api.Help{{}}}, api.ErrArg)
}

// badSwims are swims of which something may not be.
func badSwims() []api.Swim {
	l := []api.Swim{{}, {Table: make([]api.Know, 65)}, {Me: 1, Table: make([]api.Know, 1)}, {Me: -1, Table: make([]api.Know, 3)}, {Me: math.MinInt, Table: make([]api.Know, 3)}}
	for _, change := range []func(s *api.Swim){
		func(s *api.Swim) { s.Table[0].State = 4 },
		func(s *api.Swim) { s.Table = s.Table[:5] },
		func(s *api.Swim) { s.Table = nil },
		func(s *api.Swim) { s.Table[2].State = api.Suspect },
		func(s *api.Swim) { s.Table[2].State = api.Dead },
		func(s *api.Swim) { s.Table[0].State = api.Suspect },
		func(s *api.Swim) { s.Me = 6 },
		func(s *api.Swim) { s.Told[0].Left = 0 },
		func(s *api.Swim) { s.Told[2].N.Who = 6 },
		func(s *api.Swim) { s.Turn.At = 5 },
		func(s *api.Swim) { s.Turn.L[0] = 6 },
		func(s *api.Swim) { s.Doubts[0].By = nil },
		func(s *api.Swim) { s.Doubts[1].By = []int{6} },
		func(s *api.Swim) { s.Doubts[1].Who = 6 },
		func(s *api.Swim) { s.Doubts[1].Inc = 14 },
		func(s *api.Swim) { s.Doubts = s.Doubts[:1] },
		func(s *api.Swim) { s.Probe.On = false },
		func(s *api.Swim) { s.Probe.Who = 2 },
		func(s *api.Swim) { s.Probe.At = -1 },
		func(s *api.Swim) { s.Helps = slices.Repeat(s.Helps, 9) },
		func(s *api.Swim) { s.Helps[1].For = 2 },
		func(s *api.Swim) { s.Helps[1].Who = 6 },
		func(s *api.Swim) { s.Helps[0].At = last + 1 },
	} {
		l = append(l, with(full(), change))
	}
	return l
}

func TestSwimThatMayNotBe(t *testing.T) {
	for _, s := range badSwims() {
		wantCheck(t, s, api.ErrArg)
		for _, g := range gossips() {
			wantAllRefused(t, g, s, 40)
			wantLeave(t, g, s, s, api.ErrArg)
		}
	}
}

// P11.1: Same.

// A swim with each part as something else is no more the same.
func TestSameOfSwimsThatDifferInOnePart(t *testing.T) {
	for _, s := range append(badSwims(), full(), of(0, alive(1)), of(1, alive(3), left(4), suspect(2))) {
		l := []api.Swim{s}
		for _, n := range []int{s.Me + 1, s.Me - 1, s.Me + 1<<32} {
			l = append(l, with(s, func(s *api.Swim) { s.Me = n }))
		}
		for _, n := range []uint64{s.Seq + 1, s.Seq - 1, s.Seq + 1<<32} {
			l = append(l, with(s, func(s *api.Swim) { s.Seq = n }))
		}
		for _, n := range []int{s.Turn.At + 1, s.Turn.At - 1, s.Turn.At + 1<<32} {
			l = append(l, with(s, func(s *api.Swim) { s.Turn.At = n }))
		}
		p := s.Probe
		for _, x := range []api.Probe{
			{On: !p.On, Who: p.Who, Seq: p.Seq, At: p.At, Asked: p.Asked, Answered: p.Answered},
			{On: p.On, Who: p.Who + 1, Seq: p.Seq, At: p.At, Asked: p.Asked, Answered: p.Answered},
			{On: p.On, Who: p.Who, Seq: p.Seq + 1, At: p.At, Asked: p.Asked, Answered: p.Answered},
			{On: p.On, Who: p.Who, Seq: p.Seq, At: p.At + 1, Asked: p.Asked, Answered: p.Answered},
			{On: p.On, Who: p.Who, Seq: p.Seq, At: p.At, Asked: !p.Asked, Answered: p.Answered},
			{On: p.On, Who: p.Who, Seq: p.Seq, At: p.At, Asked: p.Asked, Answered: !p.Answered},
		} {
			l = append(l, with(s, func(s *api.Swim) { s.Probe = x }))
		}
		l = append(l, longer(s)...)
		for i, a := range l {
			for j, b := range l {
				wantSame(t, a, clone(b), i == j)
			}
		}
	}
}

// longer are swims of which one list has one more.
func longer(s api.Swim) []api.Swim {
	return []api.Swim{
		with(s, func(s *api.Swim) { s.Table = append(s.Table, api.Know{}) }),
		with(s, func(s *api.Swim) { s.Told = append(s.Told, api.Told{}) }),
		with(s, func(s *api.Swim) { s.Turn.L = append(s.Turn.L, 0) }),
		with(s, func(s *api.Swim) { s.Doubts = append(s.Doubts, api.Doubt{}) }),
		with(s, func(s *api.Swim) { s.Helps = append(s.Helps, api.Help{}) }),
	}
}

func TestSameOfListsThatDifferAtOnePlace(t *testing.T) {
	s := full()
	l := []api.Swim{s}
	put := func(change func(s *api.Swim)) { l = append(l, with(s, change)) }
	for at := range s.Table {
		put(func(s *api.Swim) { s.Table[at].Inc++ })
		put(func(s *api.Swim) { s.Table[at].State++ })
		put(func(s *api.Swim) { s.Table = slices.Delete(s.Table, at, at+1) })
	}
	for at := range s.Told {
		put(func(s *api.Swim) { s.Told[at].Left++ })
		put(func(s *api.Swim) { s.Told[at].N.Who++ })
		put(func(s *api.Swim) { s.Told[at].N.K.Inc++ })
		put(func(s *api.Swim) { s.Told[at].N.K.State++ })
		put(func(s *api.Swim) { s.Told = slices.Delete(s.Told, at, at+1) })
	}
	for at := range s.Turn.L {
		put(func(s *api.Swim) { s.Turn.L[at] += 10 })
		put(func(s *api.Swim) { s.Turn.L = slices.Delete(s.Turn.L, at, at+1) })
	}
	for at := range s.Doubts {
		put(func(s *api.Swim) { s.Doubts[at].Who++ })
		put(func(s *api.Swim) { s.Doubts[at].Inc++ })
		put(func(s *api.Swim) { s.Doubts[at].At++ })
		put(func(s *api.Swim) { s.Doubts[at].By[0]++ })
		put(func(s *api.Swim) { s.Doubts[at].By = append(s.Doubts[at].By, 9) })
		put(func(s *api.Swim) { s.Doubts[at].By = nil })
		put(func(s *api.Swim) { s.Doubts = slices.Delete(s.Doubts, at, at+1) })
	}
	for at := range s.Helps {
		put(func(s *api.Swim) { s.Helps[at].Seq++ })
		put(func(s *api.Swim) { s.Helps[at].For++ })
		put(func(s *api.Swim) { s.Helps[at].Theirs++ })
		put(func(s *api.Swim) { s.Helps[at].Who++ })
		put(func(s *api.Swim) { s.Helps[at].At++ })
		put(func(s *api.Swim) { s.Helps = slices.Delete(s.Helps, at, at+1) })
	}
	put(func(s *api.Swim) { slices.Reverse(s.Table) })
	put(func(s *api.Swim) { slices.Reverse(s.Told) })
	put(func(s *api.Swim) { slices.Reverse(s.Turn.L) })
	put(func(s *api.Swim) { slices.Reverse(s.Doubts) })
	put(func(s *api.Swim) { slices.Reverse(s.Helps) })
	for i, a := range l {
		for j, b := range l {
			wantSame(t, a, clone(b), i == j)
		}
	}
}

func TestSameOfListsThatAreNoneAndThatAreEmpty(t *testing.T) {
	none := api.Swim{Me: 3, Doubts: []api.Doubt{{Who: 1}}}
	s := full()
	empty := api.Swim{Me: 3, Table: []api.Know{}, Told: []api.Told{}, Turn: api.Turn{L: []int{}}, Doubts: []api.Doubt{{Who: 1, By: []int{}}}, Helps: []api.Help{}}
	cut := api.Swim{Me: 3, Table: s.Table[:0], Told: s.Told[:0], Turn: api.Turn{L: s.Turn.L[:0]}, Doubts: []api.Doubt{{Who: 1, By: s.Turn.L[:0]}}, Helps: s.Helps[:0]}
	for _, a := range []api.Swim{none, empty, cut} {
		for _, b := range []api.Swim{none, empty, cut} {
			wantSame(t, a, b, true)
			wantSame(t, a, s, false)
			for _, x := range longer(b) {
				wantSame(t, a, x, false)
			}
		}
	}
	wantSame(t, api.Swim{}, api.Swim{Doubts: []api.Doubt{}}, true)
}

// Lists that are none, and that are empty, are the same also to what a call does.
func TestEmptyLists(t *testing.T) {
	none := of(0, alive(1), alive(2), left(4))
	empty := clone(none)
	empty.Told, empty.Turn.L, empty.Doubts, empty.Helps = []api.Told{}, []int{}, []api.Doubt{}, []api.Help{}
	wantCheck(t, empty, api.OK)
	g := usual()
	for now := range int64(6) {
		a, _, out, e := Tick(g, none, now, api.Dice{})
		wantTick(t, g, empty, now, api.Dice{}, a, api.Dice{}, out, e)
	}
	for kind := api.PingM; kind <= api.PushM; kind++ {
		m := to(none, kind)
		a, out, e := Hear(g, none, 3, m)
		if m.News = []api.News{}; m.Table == nil {
			m.Table = []api.Know{}
		}
		wantHear(t, g, empty, 3, m, a, out, e)
	}
}

func TestCheckAndSameOfDrawnSwims(t *testing.T) {
	r := rand.New(rand.NewSource(seed))
	for range 3000 {
		n := drawnCount(r)
		s := drawn(r, n, int64(r.Intn(30)))
		wantCheck(t, s, api.OK)
		wantSame(t, s, clone(s), true)
		o := drawn(r, n, int64(r.Intn(30)))
		wantSame(t, s, o, equal(s, o))
	}
}

// faulty is a swim of which something is another one by what is drawn, that may be or not.
func faulty(r *rand.Rand, s api.Swim) api.Swim {
	s = clone(s)
	n := len(s.Table)
	node := anyOf(r, append(badNodes(n), upTo(n)...))
	tick := anyOf(r, slices.Concat(badTicks, edgeTicks))
	number := anyOf(r, edgeNumbers)
	state := anyOf(r, append(badStates, 0, 1, 2, 3))
	some := func(n int) int { return r.Intn(max(1, n)) }
	changes := []func(){
		func() { s.Me = node },
		func() { s.Table[some(n)].State = state },
		func() { s.Table[some(n)].Inc = number },
		func() { s.Table = s.Table[:some(n)] },
		func() { s.Table = append(s.Table, drawnKnow(r)) },
		func() { s.Told = append(s.Told, told(node, known(number, state), r.Intn(67))) },
		func() { s.Turn.L = append(s.Turn.L, node) },
		func() { s.Turn.At = node },
		func() { s.Doubts = append(s.Doubts, doubt(node, number, tick, r.Intn(n))) },
		func() { s.Doubts = s.Doubts[:some(len(s.Doubts))] },
		func() { s.Probe.On = !s.Probe.On },
		func() { s.Probe.Who = node },
		func() { s.Probe.At = tick },
		func() { s.Probe = api.Probe{} },
		func() { s.Helps = append(s.Helps, help(number, node, tick, some(n), number)) },
		func() { s.Helps = append(s.Helps, help(number, some(n), tick, node, number)) },
		func() { s.Seq = number },
	}
	if len(s.Told) > 0 {
		changes = append(changes, func() { s.Told[some(len(s.Told))].Left = r.Intn(67) }, func() { s.Told[some(len(s.Told))].N.Who = node })
	}
	if len(s.Doubts) > 0 {
		x := &s.Doubts[some(len(s.Doubts))]
		changes = append(changes, func() { x.Inc = number }, func() { x.At = tick }, func() { x.Who = node }, func() { x.By[some(len(x.By))] = node }, func() { x.By = append(x.By, node) })
	}
	anyOf(r, changes)()
	return s
}

func TestCheckOfDrawnFaults(t *testing.T) {
	r := rand.New(rand.NewSource(seed))
	found := [2]int{}
	for range 20000 {
		s := drawn(r, drawnCount(r), 20)
		for range 1 + r.Intn(2) {
			if len(s.Table) > 0 {
				s = faulty(r, s)
			}
		}
		if slowMay(s) {
			wantCheck(t, s, api.OK)
			found[0]++
			continue
		}
		found[1]++
		wantCheck(t, s, api.ErrArg)
		if r.Intn(10) == 0 {
			wantAllRefused(t, usual(), s, 20)
			wantLeave(t, usual(), s, s, api.ErrArg)
		}
	}
	if found[0] < 1000 || found[1] < 1000 {
		t.Errorf("only %v were drawn that may be, and may not be", found)
	}
}
