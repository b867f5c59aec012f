package swim

import (
	"math"
	"math/rand"
	"slices"
	"strings"
	"testing"

	"tattle/api"
)

// P11.3: Tick.

// noDice draw 0 again and again.
var noDice = api.Dice{}

// Messages of no node yet.

func ping(to int, seq uint64, k api.Know, l ...api.News) api.Msg {
	return api.Msg{Kind: api.PingM, To: to, Seq: seq, K: k, News: l}
}

func req(to int, seq uint64, who int, l ...api.News) api.Msg {
	return api.Msg{Kind: api.ReqM, To: to, Seq: seq, Who: who, News: l}
}

func ack(to int, seq uint64, who int, k api.Know, l ...api.News) api.Msg {
	return api.Msg{Kind: api.AckM, To: to, Seq: seq, Who: who, K: k, News: l}
}

func nack(to int, seq uint64, who int) api.Msg {
	return api.Msg{Kind: api.NackM, To: to, Seq: seq, Who: who}
}

func pull(to int, table ...api.Know) api.Msg {
	return api.Msg{Kind: api.PullM, To: to, Table: table}
}

func push(to int, table ...api.Know) api.Msg {
	return api.Msg{Kind: api.PushM, To: to, Table: table}
}

// from are messages of a node.
func from(me int, l ...api.Msg) []api.Msg {
	for at := range l {
		l[at].From = me
	}
	return l
}

// asking is a swim of 5 nodes, Me 0, that asks for node 2, of which it knows something, by number 9, since 10; the next one is node 1.
func asking(held api.Know) api.Swim {
	s := of(0, alive(1), alive(2), held, alive(4), dead(5))
	s.Turn = api.Turn{L: []int{2, 1, 3, 4}, At: 1}
	s.Seq = 9
	s.Probe = asked(2, 9, 10)
	return s
}

func TestTickOfTheExamples(t *testing.T) {
	g := usual()
	s, _ := New(2, 0, 0)
	first := api.Swim{Table: s.Table, Turn: api.Turn{L: []int{1}, At: 1}, Seq: 1, Probe: asked(1, 1, 1)}
	wantTick(t, g, s, 1, noDice, first, noDice, from(0, ping(1, 1, alive(0))), api.OK)
	answered := with(first, func(s *api.Swim) { s.Probe.Answered = true })
	wantHear(t, g, first, 2, from(1, ack(0, 1, 1, alive(0)))[0], answered, nil, api.OK)
	doubted := api.Swim{Table: []api.Know{alive(0), suspect(0)}, Told: []api.Told{told(1, suspect(0), 3)}, Turn: api.Turn{L: []int{1}, At: 1}, Doubts: []api.Doubt{doubt(1, 0, 6, 0)}, Seq: 2, Probe: asked(1, 2, 6)}
	wantTick(t, g, first, 6, noDice, doubted, noDice, from(0, ping(1, 2, suspect(0), newsOf(1, suspect(0)))), api.OK)
}

func TestTickWithoutOthers(t *testing.T) {
	d := api.Dice{L: "\x03\x05\x07"}
	for _, s := range []api.Swim{of(0, alive(1)), of(1, left(3), alive(1)), of(1, left(3), alive(1), left(4), left(0))} {
		for now := range int64(8) {
			g := usual()
			wantTick(t, g, s, now, d, s, d, nil, api.OK)
			g.Sync = 1
			wantTick(t, g, s, now, d, s, d, nil, api.OK)
		}
		// What is told is not taken where nothing is said, and a turn stays as it is.
		s = with(s, func(s *api.Swim) { s.Told, s.Turn = []api.Told{told(0, left(3), 1)}, api.Turn{L: []int{0}} })
		wantTick(t, usual(), s, 5, d, s, d, nil, api.OK)
	}
}

// Who has been asked for stays asked for, till Period is over, though it has left by now.
func TestTickWithoutOthersButOneAskedFor(t *testing.T) {
	g := usual()
	s := of(0, alive(1), left(2))
	s.Probe = asked(1, 9, 10)
	wantTick(t, g, s, 11, noDice, s, noDice, nil, api.OK)
	wantTick(t, g, s, 12, noDice, with(s, func(s *api.Swim) { s.Probe.Asked = true }), noDice, nil, api.OK)
	wantTick(t, g, s, 15, noDice, with(s, func(s *api.Swim) { s.Probe = api.Probe{} }), noDice, nil, api.OK)
}

// Step 1

func TestTickOfDoubtsThatAreRipe(t *testing.T) {
	g := usual()
	// Among 4 nodes 18, with a confirmation 15, with two 12, with three 9.
	for c, wait := range []int64{18, 15, 12, 9} {
		s := of(0, alive(1), suspect(2), alive(3), alive(4))
		s.Doubts[0] = doubt(1, 2, 10, upTo(c+1)...)
		s.Probe = asked(2, 7, 10+wait-1)
		wantTick(t, g, s, 10+wait-1, noDice, s, noDice, nil, api.OK)
		for _, late := range []int64{0, 1} {
			s.Probe.At = 10 + wait + late
			wantTick(t, g, s, 10+wait+late, noDice, with(s, func(s *api.Swim) {
				s.Table[1] = dead(2)
				s.Told = []api.Told{told(1, dead(2), 6)}
				s.Doubts = nil
			}), noDice, nil, api.OK)
		}
	}
}

func TestTickOfSeveralDoubts(t *testing.T) {
	g := usual()
	s := of(2, suspect(1), suspect(2), alive(3), suspect(4), suspect(5))
	s.Doubts = []api.Doubt{doubt(0, 1, 12, 1), doubt(1, 2, 13, 0), doubt(3, 4, 15, 0, 1), doubt(4, 5, 16, 0, 2)}
	s.Probe = asked(4, 7, 30)
	// Node 0 is ripe at 30, and so is node 3, with a confirmation; nodes 1 and 4 are at 31.
	wantTick(t, g, s, 30, noDice, with(s, func(s *api.Swim) {
		s.Table[0], s.Table[3] = dead(1), dead(4)
		s.Told = []api.Told{told(0, dead(1), 6), told(3, dead(4), 6)}
		s.Doubts = []api.Doubt{doubt(1, 2, 13, 0), doubt(4, 5, 16, 0, 2)}
	}), noDice, nil, api.OK)
	wantTick(t, g, s, 31, noDice, with(s, func(s *api.Swim) {
		s.Table = []api.Know{dead(1), dead(2), alive(3), dead(4), dead(5)}
		s.Told = []api.Told{told(0, dead(1), 6), told(1, dead(2), 6), told(3, dead(4), 6), told(4, dead(5), 6)}
		s.Doubts = nil
	}), noDice, nil, api.OK)
	wantTick(t, g, s, 29, noDice, s, noDice, nil, api.OK)
}

// Who is dead by now is told along with what is said at the same tick, and is not up.
func TestTickTellsOfTheDeadAtOnce(t *testing.T) {
	g := usual()
	s := asking(suspect(3))
	s.Probe.At = 16
	s.Doubts = []api.Doubt{doubt(2, 3, 0, 1)}
	s.Table[3] = suspect(4)
	s.Doubts = append(s.Doubts, doubt(3, 4, 1, 1))
	// Node 2 is dead at 18; it is asked for since 16, so that node 1 and node 3, which is suspect, are asked.
	wantTick(t, g, s, 18, noDice, with(s, func(s *api.Swim) {
		s.Table[2] = dead(3)
		s.Told = []api.Told{told(2, dead(3), 4)}
		s.Doubts = s.Doubts[1:]
		s.Probe.Asked = true
	}), noDice, from(0, req(3, 9, 2, newsOf(2, dead(3))), req(1, 9, 2, newsOf(2, dead(3)))), api.OK)
	// At 19 node 3 is dead as well.
	s.Probe.At = 17
	wantTick(t, g, s, 19, noDice, with(s, func(s *api.Swim) {
		s.Table[2], s.Table[3] = dead(3), dead(4)
		s.Told = []api.Told{told(2, dead(3), 5), told(3, dead(4), 5)}
		s.Doubts = nil
		s.Probe.Asked = true
	}), noDice, from(0, req(1, 9, 2, newsOf(2, dead(3)), newsOf(3, dead(4)))), api.OK)
}

// A doubt that is confirmed at a tick is not ripe by that before the next one.
func TestTickFindsTheRipeFirst(t *testing.T) {
	g := usual()
	s := asking(suspect(3))
	s.Doubts = []api.Doubt{doubt(2, 3, 0, 3)}
	then := with(s, func(s *api.Swim) {
		s.Doubts[0].By = []int{0, 3}
		s.Turn.At, s.Seq, s.Probe = 2, 10, asked(1, 10, 15)
	})
	wantTick(t, g, s, 15, noDice, then, noDice, from(0, ping(1, 10, alive(2))), api.OK)
	wantTick(t, g, then, 16, noDice, with(then, func(s *api.Swim) {
		s.Table[2] = dead(3)
		s.Told = []api.Told{told(2, dead(3), 6)}
		s.Doubts = nil
	}), noDice, nil, api.OK)
	// One that is ripe is dead, and not doubted again.
	wantTick(t, g, s, 18, noDice, with(s, func(s *api.Swim) {
		s.Table[2] = dead(3)
		s.Told = []api.Told{told(2, dead(3), 5)}
		s.Doubts = nil
		s.Turn.At, s.Seq, s.Probe = 2, 10, asked(1, 10, 18)
	}), noDice, from(0, ping(1, 10, alive(2), newsOf(2, dead(3)))), api.OK)
}

// Step 2

// wantNext fails if at a tick the one asked for is not given up, and node 1 asked next, with what is known of node 2 then.
func wantNext(t *testing.T, s api.Swim, now int64, then api.Know, doubts []api.Doubt, l ...api.News) {
	t.Helper()
	want := clone(s)
	want.Table[2] = then
	want.Doubts = doubts
	want.Turn.At, want.Seq, want.Probe = 2, 10, asked(1, 10, now)
	for _, n := range l {
		want.Told = append(want.Told, api.Told{N: n, Left: 5})
	}
	wantTick(t, usual(), s, now, noDice, want, noDice, from(0, ping(1, 10, alive(2), l...)), api.OK)
}

func TestTickOfOneThatHadItsPeriod(t *testing.T) {
	for _, late := range []int64{0, 1, 2, 100, last - 15} {
		now := 15 + late
		for _, others := range []bool{false, true} {
			ask := func(held api.Know) api.Swim {
				return with(asking(held), func(s *api.Swim) {
					s.Probe.Asked = others
					for at := range s.Doubts {
						s.Doubts[at].At = now
					}
				})
			}
			wantNext(t, ask(alive(3)), now, suspect(3), []api.Doubt{doubt(2, 3, now, 0)}, newsOf(2, suspect(3)))
			wantNext(t, ask(alive(greatest)), now, suspect(greatest), []api.Doubt{doubt(2, greatest, now, 0)}, newsOf(2, suspect(greatest)))
			wantNext(t, ask(suspect(3)), now, suspect(3), []api.Doubt{doubt(2, 3, now, 0)})
			wantNext(t, with(ask(suspect(3)), func(s *api.Swim) { s.Doubts[0].By = []int{4} }), now, suspect(3), []api.Doubt{doubt(2, 3, now, 0, 4)})
			wantNext(t, ask(dead(3)), now, dead(3), nil)
			wantNext(t, ask(left(3)), now, left(3), nil)
			for _, held := range []api.Know{alive(3), suspect(3), dead(3), left(3)} {
				s := with(ask(held), func(s *api.Swim) { s.Probe.Answered = true })
				wantNext(t, s, now, held, s.Doubts)
			}
		}
	}
}

// It is asked for by two that are up, but Me and the one: 1 and 3, by dice that draw 0 in the order 3, 1.
func TestTickOfOneThatHadItsDirect(t *testing.T) {
	g := usual()
	for _, held := range []api.Know{alive(3), suspect(3), dead(3), left(3)} {
		s := asking(held)
		for at := range s.Doubts {
			s.Doubts[at].At = 10
		}
		for _, now := range []int64{0, 9, 10, 11} {
			wantTick(t, g, s, now, noDice, s, noDice, nil, api.OK)
		}
		for _, now := range []int64{12, 13, 14} {
			then := with(s, func(s *api.Swim) { s.Probe.Asked = true })
			wantTick(t, g, s, now, noDice, then, noDice, from(0, req(3, 9, 2), req(1, 9, 2)), api.OK)
			wantTick(t, g, then, now, noDice, then, noDice, nil, api.OK)
			answered := with(s, func(s *api.Swim) { s.Probe.Answered = true })
			wantTick(t, g, answered, now, noDice, answered, noDice, nil, api.OK)
			answered.Probe.Asked = true
			wantTick(t, g, answered, now, noDice, answered, noDice, nil, api.OK)
		}
	}
}

// Others are asked by as many as Helpers, of those that are up; the dice are taken for all of these, whoever is asked.
func TestTickOfHelpers(t *testing.T) {
	s := of(0, alive(1), suspect(2), alive(3), dead(4), left(5), alive(6), suspect(7))
	for at := range s.Doubts {
		s.Doubts[at].At = 12
	}
	s.Probe = asked(2, 9, 10)
	then := with(s, func(s *api.Swim) { s.Probe.Asked = true })
	// Of 1, 5, 6: below 3 and below 2 are drawn.
	for _, c := range []struct {
		octets string
		order  []int
	}{{"\x02\x01", []int{1, 5, 6}}, {"\x00\x00", []int{5, 6, 1}}, {"\x01\x01", []int{1, 6, 5}}, {"\x05\x02", []int{5, 1, 6}}, {"", []int{5, 6, 1}}} {
		for helpers := range 9 {
			g := usual()
			g.Helpers = helpers
			var l []api.Msg
			for _, who := range c.order[:min(3, helpers)] {
				l = append(l, req(who, 9, 2))
			}
			d := api.Dice{L: "\x09" + c.octets, At: 1}
			wantTick(t, g, s, 12, d, then, api.Dice{L: d.L, At: len(d.L)}, from(0, l...), api.OK)
		}
	}
	// One alone is asked without a draw, and where none is up, none.
	d := api.Dice{L: "\x01\x01\x01"}
	for _, c := range []struct {
		s api.Swim
		l []api.Msg
	}{{of(0, alive(1), alive(2), dead(3)), nil}, {of(0, alive(1), alive(2), left(3)), nil}, {of(0, alive(1), dead(2)), nil}, {of(0, alive(1), alive(2), alive(3)), []api.Msg{req(2, 9, 1)}}, {of(0, alive(1), dead(2), suspect(3)), []api.Msg{req(2, 9, 1)}}} {
		c.s.Probe = asked(1, 9, 10)
		for at := range c.s.Doubts {
			c.s.Doubts[at].At = 12
		}
		wantTick(t, usual(), c.s, 12, d, with(c.s, func(s *api.Swim) { s.Probe.Asked = true }), d, c.l, api.OK)
	}
}

// Each message has news of its own, that are told once less often by it.
func TestTickTellsNewsToEachHelper(t *testing.T) {
	g := usual()
	s := asking(alive(3))
	s.Told = []api.Told{told(0, alive(1), 1), told(1, alive(2), 2), told(3, alive(4), 1), told(4, dead(5), 2)}
	l := from(0, req(3, 9, 2, newsOf(1, alive(2)), newsOf(4, dead(5))), req(1, 9, 2, newsOf(0, alive(1)), newsOf(1, alive(2))))
	wantTick(t, g, s, 12, noDice, with(s, func(s *api.Swim) {
		s.Told = []api.Told{told(3, alive(4), 1), told(4, dead(5), 1)}
		s.Probe.Asked = true
	}), noDice, l, api.OK)
	g.News = 0
	wantTick(t, g, s, 12, noDice, with(s, func(s *api.Swim) { s.Probe.Asked = true }), noDice, from(0, req(3, 9, 2), req(1, 9, 2)), api.OK)
	g.News = 8
	wantTick(t, g, s, 12, noDice, with(s, func(s *api.Swim) { s.Told, s.Probe.Asked = nil, true }), noDice,
		from(0, req(3, 9, 2, newsOf(1, alive(2)), newsOf(4, dead(5)), newsOf(0, alive(1)), newsOf(3, alive(4))), req(1, 9, 2, newsOf(1, alive(2)), newsOf(4, dead(5)))), api.OK)
}

// Direct and Period count as they are, whatever they are.
func TestTickOfEachDirectAndPeriod(t *testing.T) {
	for _, period := range []int64{2, 3, 10, 999, 1000} {
		for _, direct := range []int64{1, 2, period / 2, period - 1} {
			if direct >= period {
				continue
			}
			g := usual()
			g.Period, g.Direct = period, direct
			s := asking(dead(3))
			for _, ago := range []int64{0, direct - 1, direct, direct + 1, period - 1, period, period + 1} {
				switch now := 10 + ago; {
				case ago >= period:
					wantTick(t, g, s, now, noDice, with(s, func(s *api.Swim) { s.Turn.At, s.Seq, s.Probe = 2, 10, asked(1, 10, now) }), noDice, from(0, ping(1, 10, alive(2))), api.OK)
				case ago >= direct:
					wantTick(t, g, s, now, noDice, with(s, func(s *api.Swim) { s.Probe.Asked = true }), noDice, from(0, req(3, 9, 2), req(1, 9, 2)), api.OK)
				default:
					wantTick(t, g, s, now, noDice, s, noDice, nil, api.OK)
				}
			}
		}
	}
}

// Step 3

func TestTickAsksTheNextOne(t *testing.T) {
	g := usual()
	s := of(1, alive(1), alive(2), suspect(3), dead(4), left(5))
	s.Doubts[0].At = 7
	s.Turn = api.Turn{L: []int{4, 3, 1, 2, 0}}
	d := api.Dice{L: "\x01\x01\x01"}
	// Those that have left, and Me, are not asked, and those that are dead are.
	for _, c := range []struct{ at, who, then int }{{0, 3, 2}, {1, 3, 2}, {2, 2, 4}, {3, 2, 4}, {4, 0, 5}} {
		s.Turn.At = c.at
		wantTick(t, g, s, 7, d, with(s, func(s *api.Swim) { s.Turn.At, s.Seq, s.Probe = c.then, 1, asked(c.who, 1, 7) }), d, from(1, ping(c.who, 1, s.Table[c.who])), api.OK)
	}
	// Behind the last one 0, 2, 3 are shuffled: below 3 and below 2 are drawn.
	for _, c := range []struct {
		octets string
		order  []int
	}{{"\x02\x01", []int{0, 2, 3}}, {"\x00\x00", []int{2, 3, 0}}, {"\x01\x00", []int{3, 0, 2}}, {"", []int{2, 3, 0}}} {
		s.Turn.At = 5
		d := api.Dice{L: c.octets + "\x07"}
		then := api.Dice{L: d.L, At: len(c.octets)}
		if c.octets == "" {
			d.At, then.At = 1, 1
		}
		wantTick(t, g, s, 7, d, with(s, func(s *api.Swim) {
			s.Turn, s.Seq, s.Probe = api.Turn{L: c.order, At: 1}, 1, asked(c.order[0], 1, 7)
		}), then, from(1, ping(c.order[0], 1, s.Table[c.order[0]])), api.OK)
	}
}

func TestTickOfEachSeq(t *testing.T) {
	for _, seq := range edgeNumbers {
		s := asking(dead(3))
		s.Seq, s.Probe = seq, api.Probe{}
		then := seq + 1
		if seq == greatest {
			then = 0
		}
		wantTick(t, usual(), s, 3, noDice, with(s, func(s *api.Swim) { s.Turn.At, s.Seq, s.Probe = 2, then, asked(1, then, 3) }), noDice, from(0, ping(1, then, alive(2))), api.OK)
	}
}

func TestTickTellsNewsToTheNextOne(t *testing.T) {
	s := asking(dead(3))
	s.Probe = api.Probe{}
	for who := range 5 {
		s.Told = append(s.Told, told(who, s.Table[who], 1+who%2))
	}
	for k := range 9 {
		g := usual()
		g.News = k
		var l []api.News
		for _, who := range []int{1, 3, 0, 2, 4}[:min(k, 5)] {
			l = append(l, newsOf(who, s.Table[who]))
		}
		var rest []api.Told
		for _, x := range s.Told {
			if slices.Contains(l, x.N) {
				x.Left--
			}
			if x.Left > 0 {
				rest = append(rest, x)
			}
		}
		wantTick(t, g, s, 3, noDice, with(s, func(s *api.Swim) { s.Told, s.Turn.At, s.Seq, s.Probe = rest, 2, 10, asked(1, 10, 3) }), noDice, from(0, ping(1, 10, alive(2), l...)), api.OK)
	}
}

// Step 4

func TestTickOfHelps(t *testing.T) {
	g := usual()
	s := asking(dead(3))
	s.Probe.At = 20
	old, just, young, late := help(1, 2, 17, 3, 101), help(2, 3, 18, 1, 102), help(3, 4, 19, 2, 103), help(4, 1, 20, 4, 104)
	future := help(5, 1, 21, 4, 105)
	s.Helps = []api.Help{young, old, late, just, future, old}
	s.Told = []api.Told{told(1, alive(2), 3)}
	want := with(s, func(s *api.Swim) { s.Helps = []api.Help{young, late, future} })
	wantTick(t, g, s, 20, noDice, want, noDice, from(0, nack(3, 101, 2), nack(1, 102, 3), nack(3, 101, 2)), api.OK)
	s.Helps = slices.Repeat([]api.Help{just}, 16)
	wantTick(t, g, s, 20, noDice, with(s, func(s *api.Swim) { s.Helps = nil }), noDice, from(0, slices.Repeat([]api.Msg{nack(1, 102, 3)}, 16)...), api.OK)
	wantTick(t, g, s, 19, noDice, s, noDice, nil, api.OK)
	// It is Direct that counts, and not Period.
	g.Direct = 4
	wantTick(t, g, s, 21, noDice, s, noDice, nil, api.OK)
	s.Helps = []api.Help{help(greatest, 2, 0, 3, greatest)}
	s.Probe.At = last
	wantTick(t, g, s, last, noDice, with(s, func(s *api.Swim) { s.Helps = nil }), noDice, from(0, nack(3, greatest, 2)), api.OK)
}

// Step 5

func TestTickOfSync(t *testing.T) {
	s := asking(left(3))
	s.Table[3] = suspect(4)
	s.Doubts = []api.Doubt{doubt(3, 4, 5, 1)}
	s.Told = []api.Told{told(1, alive(2), 3)}
	toldTo := func(who int) []api.Msg { return from(0, pull(who, s.Table...)) }
	for sync := range int64(9) {
		g := usual()
		g.Sync = sync
		for now := int64(0); now < 12; now++ {
			s.Probe.At = now
			// Of 1, 3, 4, by dice that draw 0: 3, 4, 1.
			if sync == 0 || now%sync > 0 {
				wantTick(t, g, s, now, noDice, s, noDice, nil, api.OK)
			} else {
				wantTick(t, g, s, now, noDice, s, noDice, toldTo(3), api.OK)
			}
		}
	}
	g := usual()
	g.Sync = 10000
	for _, now := range []int64{0, 10000, 20000} {
		s.Probe.At, s.Doubts[0].At = now, now
		wantTick(t, g, s, now, noDice, s, noDice, toldTo(3), api.OK)
		s.Probe.At, s.Doubts[0].At = now+1, now+1
		wantTick(t, g, s, now+1, noDice, s, noDice, nil, api.OK)
	}
	// 2^40 is a multiple of 8192.
	g.Sync = 8192
	s.Probe.At, s.Doubts[0].At = last, last
	wantTick(t, g, s, last, noDice, s, noDice, toldTo(3), api.OK)
	g.Sync = 8191
	wantTick(t, g, s, last, noDice, s, noDice, nil, api.OK)
}

func TestTickOfSyncByDice(t *testing.T) {
	g := usual()
	g.Sync = 1
	s := asking(left(3))
	for _, c := range []struct {
		octets string
		who    int
	}{{"\x02\x01", 1}, {"\x00\x00", 3}, {"\x01\x00", 4}, {"\x02\x00", 3}, {"\x00\x01", 4}, {"\x01\x01", 1}} {
		d := api.Dice{L: c.octets + "\x01"}
		wantTick(t, g, s, 10, d, s, api.Dice{L: d.L, At: 2}, from(0, pull(c.who, s.Table...)), api.OK)
	}
	// One alone is taken without a draw; also one that is dead.
	d := api.Dice{L: "\x01"}
	s = of(1, dead(4), alive(1), left(2))
	s.Turn, s.Probe = api.Turn{L: []int{0}, At: 0}, asked(0, 5, 10)
	wantTick(t, g, s, 10, d, s, d, from(1, pull(0, s.Table...)), api.OK)
}

// All steps

// What is done first counts for what is done then: one tick with all there is.
func TestTickOfAllAtOnce(t *testing.T) {
	g := usual()
	g.Sync = 6
	s := of(0, alive(1), alive(2), suspect(3), alive(4), dead(5), alive(6))
	s.Doubts = []api.Doubt{doubt(2, 3, 12, 1)}
	s.Turn = api.Turn{L: []int{1, 2, 3, 4, 5}, At: 5}
	s.Seq = 40
	s.Probe = asked(1, 40, 25)
	s.Helps = []api.Help{help(30, 5, 28, 3, 31), help(33, 1, 29, 5, 32)}
	// 1, 2, 3, 4, 5 are shuffled, by 4, 0, 1, 1: 4, 3, 2, 1, 5; then, by 0, 1, 2, 1, for who gets the table: 5, 4, 3, 2, 1.
	d := api.Dice{L: "\x04\x00\x01\x01\x00\x01\x02\x01\x09"}
	want := with(s, func(s *api.Swim) {
		s.Table[1], s.Table[2] = suspect(2), dead(3)
		s.Told = []api.Told{told(1, suspect(2), 5), told(2, dead(3), 5)}
		s.Doubts = []api.Doubt{doubt(1, 2, 30, 0)}
		s.Turn = api.Turn{L: []int{4, 3, 2, 1, 5}, At: 1}
		s.Seq, s.Probe = 41, asked(4, 41, 30)
		s.Helps = s.Helps[1:]
	})
	wantTick(t, g, s, 30, d, want, api.Dice{L: d.L, At: 8}, from(0, ping(4, 41, dead(5), newsOf(1, suspect(2)), newsOf(2, dead(3))), nack(3, 31, 5), pull(5, want.Table...)), api.OK)
	// And with Direct over, and not Period: 3, 5 are up, and are shuffled, by 1: 3, 5.
	s.Probe.At = 28
	d = api.Dice{L: "\x01\x00\x01\x02\x01\x09"}
	want = with(s, func(s *api.Swim) {
		s.Table[2] = dead(3)
		s.Told = []api.Told{told(2, dead(3), 4)}
		s.Doubts = nil
		s.Probe.Asked = true
		s.Helps = s.Helps[1:]
	})
	wantTick(t, g, s, 30, d, want, api.Dice{L: d.L, At: 5}, from(0, req(3, 40, 1, newsOf(2, dead(3))), req(5, 40, 1, newsOf(2, dead(3))), nack(3, 31, 5), pull(5, want.Table...)), api.OK)
}

func TestTickOfMeLeft(t *testing.T) {
	s := with(full(), func(s *api.Swim) { s.Table[2] = left(12) })
	for _, g := range gossips() {
		g.Sync = 1
		for _, now := range []int64{0, 33, 40, 400, last} {
			for _, d := range []api.Dice{{}, {L: "abc"}, {L: "abc", At: 3}} {
				wantTick(t, g, s, now, d, s, d, nil, api.OK)
			}
		}
	}
}

// Refused

// badDice are dice that may not be.
var badDice = []api.Dice{{At: 1}, {At: -1}, {L: "a", At: 2}, {L: "a", At: -1}, {L: "abc", At: 4}, {L: strings.Repeat("a", 300), At: 301}, {At: math.MaxInt}, {At: math.MinInt}, {L: "a", At: 1 << 32}}

func TestTickOfDiceThatMayNotBe(t *testing.T) {
	for _, s := range []api.Swim{full(), asking(alive(3)), of(0, alive(1)), of(1, alive(1), left(2)), of(0, alive(2), left(1))} {
		for _, d := range badDice {
			wantTick(t, usual(), s, 40, d, s, d, nil, api.ErrArg)
		}
	}
}

func TestNowThatMayNotBe(t *testing.T) {
	for _, s := range []api.Swim{full(), asking(alive(3)), of(0, alive(1), alive(2)), of(1, alive(1), left(2))} {
		for _, now := range badTicks {
			wantAllRefused(t, usual(), s, now)
		}
	}
}

func TestTickAtEachEnd(t *testing.T) {
	s, g := asking(alive(3)), usual()
	s.Probe.At = last
	for _, now := range []int64{0, 1, last - 1, last} {
		wantTick(t, g, s, now, noDice, s, noDice, nil, api.OK)
	}
	s.Probe.At = 0
	wantNext(t, s, last, suspect(3), []api.Doubt{doubt(2, 3, last, 0)}, newsOf(2, suspect(3)))
	// Doubts near the last tick are never ripe.
	s = asking(suspect(3))
	s.Probe.At, s.Doubts[0].At = last, last-17
	wantTick(t, g, s, last, noDice, s, noDice, nil, api.OK)
	s.Doubts[0].At = last - 18
	wantTick(t, g, s, last, noDice, with(s, func(s *api.Swim) {
		s.Table[2], s.Doubts, s.Told = dead(3), nil, []api.Told{told(2, dead(3), 6)}
	}), noDice, nil, api.OK)
}

// Drawn

// wantTickLikeSlow fails if Tick does otherwise than the chapter tells.
func wantTickLikeSlow(t *testing.T, g api.Gossip, s api.Swim, now int64, d api.Dice) {
	t.Helper()
	w := slowOf(g, s, now, d)
	w.tick()
	wantTick(t, g, s, now, d, w.swim(), w.dice(d), w.said, api.OK)
}

func TestTickOfDrawn(t *testing.T) {
	r := rand.New(rand.NewSource(seed))
	for range 30000 {
		now := int64(r.Intn(40))
		if r.Intn(20) == 0 {
			now = last - now
		}
		wantTickLikeSlow(t, drawnGossip(r), drawn(r, drawnCount(r), now), now, drawnDice(r))
	}
}
