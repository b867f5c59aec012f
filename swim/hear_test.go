package swim

import (
	"math"
	"math/rand"
	"slices"
	"testing"

	"tattle/api"
)

// P11.4: Hear.

// heard is a message from one node to another one.
func heard(from int, m api.Msg) api.Msg {
	m.From = from
	return m
}

// mid is a swim of 5 nodes, Me 1, that knows something of all, and asks for nobody.
func mid() api.Swim {
	s := of(1, alive(3), alive(8), suspect(4), dead(5), left(6))
	s.Seq = 20
	return s
}

// PingM

func TestHearPing(t *testing.T) {
	g, s := usual(), mid()
	for _, seq := range edgeNumbers {
		for from0 := range 5 {
			if from0 == 1 {
				continue
			}
			m := heard(from0, ping(1, seq, alive(8)))
			wantHear(t, g, s, 7, m, s, from(1, ack(from0, seq, 1, alive(8))), api.OK)
		}
	}
}

// wantRefuted fails if a ping by which Me is held for something is not answered by what it is then.
func wantRefuted(t *testing.T, k api.Know, then uint64) {
	t.Helper()
	s := mid()
	want := clone(s)
	var l []api.News
	if then != 8 {
		want.Table[1] = alive(then)
		want.Told = []api.Told{told(1, alive(then), 5)}
		l = []api.News{newsOf(1, alive(then))}
	}
	wantHear(t, usual(), s, 7, heard(3, ping(1, 9, k)), want, from(1, ack(3, 9, 1, alive(then), l...)), api.OK)
}

func TestHearPingOfWhatMeIsHeldFor(t *testing.T) {
	wantRefuted(t, alive(8), 8)
	wantRefuted(t, suspect(8), 9)
	wantRefuted(t, dead(8), 9)
	wantRefuted(t, left(8), 9)
	wantRefuted(t, suspect(7), 8)
	wantRefuted(t, dead(0), 8)
	wantRefuted(t, left(7), 8)
	wantRefuted(t, alive(9), 10)
	wantRefuted(t, suspect(11), 12)
	wantRefuted(t, dead(greatest-1), greatest)
	// Above the greatest one there is none.
	wantRefuted(t, dead(greatest), 8)
	wantRefuted(t, alive(greatest), 8)
}

func TestHearPingWithNews(t *testing.T) {
	g, s := usual(), mid()
	// One, of Me, which comes ahead of what Me is held for.
	m := heard(3, ping(1, 9, dead(10), newsOf(1, suspect(8))))
	then := with(s, func(s *api.Swim) { s.Table[1], s.Told = alive(11), []api.Told{told(1, alive(11), 5)} })
	wantHear(t, g, s, 7, m, then, from(1, ack(3, 9, 1, alive(11), newsOf(1, alive(11)))), api.OK)
	// As many as may be, of which some beat one another; they are by From, and in order.
	m = heard(3, ping(1, 9, alive(8), newsOf(2, suspect(4)), newsOf(0, suspect(3)), newsOf(3, alive(5)), newsOf(3, suspect(6)), newsOf(3, dead(5)), newsOf(4, alive(7)), newsOf(4, left(7)), newsOf(0, suspect(3))))
	then = with(s, func(s *api.Swim) {
		s.Table = []api.Know{suspect(3), alive(8), suspect(4), suspect(6), left(7)}
		s.Told = []api.Told{told(0, suspect(3), 5), told(3, suspect(6), 5), told(4, left(7), 6)}
		s.Doubts = []api.Doubt{doubt(0, 3, 7, 3), doubt(2, 4, 0, 0, 3), doubt(3, 6, 7, 3)}
	})
	wantHear(t, g, s, 7, m, then, from(1, ack(3, 9, 1, alive(8), newsOf(0, suspect(3)), newsOf(3, suspect(6)))), api.OK)
	// What is told already goes along, with no news and with one.
	s.Told = []api.Told{told(0, alive(3), 2), told(4, left(6), 4)}
	then = with(s, func(s *api.Swim) { s.Told = []api.Told{told(0, alive(3), 1), told(4, left(6), 3)} })
	wantHear(t, g, s, 7, heard(3, ping(1, 9, alive(8))), then, from(1, ack(3, 9, 1, alive(8), newsOf(4, left(6)), newsOf(0, alive(3)))), api.OK)
	then = with(then, func(s *api.Swim) {
		s.Table[3], s.Told = alive(6), []api.Told{told(0, alive(3), 2), told(3, alive(6), 5), told(4, left(6), 3)}
	})
	wantHear(t, g, s, 7, heard(3, ping(1, 9, alive(8), newsOf(3, alive(6)))), then, from(1, ack(3, 9, 1, alive(8), newsOf(3, alive(6)), newsOf(4, left(6)))), api.OK)
	g.News = 0
	wantHear(t, g, s, 7, heard(3, ping(1, 9, alive(8))), s, from(1, ack(3, 9, 1, alive(8))), api.OK)
}

// ReqM

func TestHearReqOfMe(t *testing.T) {
	g, s := usual(), mid()
	for _, helps := range []int{0, 1, 15, 16} {
		s.Helps = slices.Repeat([]api.Help{help(5, 0, 3, 2, 6)}, helps)
		s.Told = []api.Told{told(0, alive(3), 1)}
		m := heard(3, req(1, 9, 1))
		wantHear(t, g, s, 7, m, with(s, func(s *api.Swim) { s.Told = nil }), from(1, ack(3, 9, 1, alive(8), newsOf(0, alive(3)))), api.OK)
		s.Told = nil
		wantHear(t, g, s, 7, m, s, from(1, ack(3, 9, 1, alive(8))), api.OK)
		// Its news come first.
		m = heard(3, req(1, 9, 1, newsOf(1, dead(8))))
		wantHear(t, g, s, 7, m, with(s, func(s *api.Swim) { s.Table[1], s.Told = alive(9), []api.Told{told(1, alive(9), 5)} }), from(1, ack(3, 9, 1, alive(9), newsOf(1, alive(9)))), api.OK)
	}
}

func TestHearReqOfFrom(t *testing.T) {
	g, s := usual(), mid()
	s.Told = []api.Told{told(0, alive(3), 1)}
	for _, helps := range []int{0, 1, 15, 16} {
		s.Helps = slices.Repeat([]api.Help{help(5, 0, 3, 2, 6)}, helps)
		for _, seq := range edgeNumbers {
			for _, who := range []int{0, 2, 3, 4} {
				wantHear(t, g, s, 7, heard(who, req(1, seq, who)), s, from(1, nack(who, seq, who)), api.OK)
			}
		}
		// Its news are learnt all the same.
		wantHear(t, g, s, 7, heard(3, req(1, 9, 3, newsOf(3, alive(6)))), with(s, func(s *api.Swim) {
			s.Table[3], s.Told = alive(6), append(s.Told, told(3, alive(6), 6))
		}), from(1, nack(3, 9, 3)), api.OK)
	}
}

func TestHearReqOfAnotherOne(t *testing.T) {
	g, s := usual(), mid()
	for _, seq := range edgeNumbers {
		for who := range 5 {
			for whose := range 5 {
				if who == 1 || whose == 1 || who == whose {
					continue
				}
				then := with(s, func(s *api.Swim) { s.Seq, s.Helps = 21, []api.Help{help(21, who, 7, whose, seq)} })
				wantHear(t, g, s, 7, heard(whose, req(1, seq, who)), then, from(1, ping(who, 21, s.Table[who])), api.OK)
			}
		}
	}
	// Who asks itself stays as it is.
	s.Probe = asked(0, 20, 6)
	s.Told = []api.Told{told(0, alive(3), 1), told(4, left(6), 2)}
	then := with(s, func(s *api.Swim) {
		s.Told, s.Seq, s.Helps = []api.Told{told(4, left(6), 1)}, 21, []api.Help{help(21, 0, 7, 3, 20)}
	})
	wantHear(t, g, s, 7, heard(3, req(1, 20, 0)), then, from(1, ping(0, 21, alive(3), newsOf(4, left(6)), newsOf(0, alive(3)))), api.OK)
	// What is known of the one by the message's own news.
	s.Told = nil
	then = with(s, func(s *api.Swim) {
		s.Table[0], s.Told, s.Doubts = suspect(4), []api.Told{told(0, suspect(4), 5)}, []api.Doubt{doubt(0, 4, 7, 3), doubt(2, 4, 0, 0)}
		s.Seq, s.Helps = 21, []api.Help{help(21, 0, 7, 3, 20)}
	})
	wantHear(t, g, s, 7, heard(3, req(1, 20, 0, newsOf(0, suspect(4)))), then, from(1, ping(0, 21, suspect(4), newsOf(0, suspect(4)))), api.OK)
}

func TestHearReqOfEachSeqOfItsOwn(t *testing.T) {
	s := mid()
	for _, seq := range edgeNumbers {
		s.Seq = seq
		then := seq + 1
		if seq == greatest {
			then = 0
		}
		wantHear(t, usual(), s, 7, heard(3, req(1, 9, 0)), with(s, func(s *api.Swim) { s.Seq, s.Helps = then, []api.Help{help(then, 0, 7, 3, 9)} }), from(1, ping(0, then, alive(3))), api.OK)
	}
}

func TestHearReqWithManyHelps(t *testing.T) {
	g, s := usual(), mid()
	s.Told = []api.Told{told(0, alive(3), 1)}
	for n := range 17 {
		s.Helps = nil
		for at := range n {
			s.Helps = append(s.Helps, help(uint64(at), 0, int64(at), 2, 6))
		}
		m := heard(3, req(1, 9, 0))
		if n == 16 {
			wantHear(t, g, s, 7, m, s, from(1, nack(3, 9, 0)), api.OK)
			continue
		}
		then := with(s, func(s *api.Swim) {
			s.Told, s.Seq, s.Helps = nil, 21, append(s.Helps, help(21, 0, 7, 3, 9))
		})
		wantHear(t, g, s, 7, m, then, from(1, ping(0, 21, alive(3), newsOf(0, alive(3)))), api.OK)
	}
	// The same one is asked for again.
	s.Helps, s.Told = []api.Help{help(20, 0, 7, 3, 9)}, nil
	wantHear(t, g, s, 7, heard(3, req(1, 9, 0)), with(s, func(s *api.Swim) { s.Seq, s.Helps = 21, append(s.Helps, help(21, 0, 7, 3, 9)) }), from(1, ping(0, 21, alive(3))), api.OK)
}

// AckM

func TestHearAckOfWhatWasAsked(t *testing.T) {
	g, s := usual(), mid()
	for _, seq := range edgeNumbers {
		for _, others := range []bool{false, true} {
			for who := range 5 {
				if who == 1 {
					continue
				}
				s.Probe = asked(who, seq, 3)
				s.Probe.Asked = others
				then := with(s, func(s *api.Swim) { s.Probe.Answered = true })
				for _, by := range []int{0, 2, 3, 4} {
					// Whoever says so, and however late.
					m := heard(by, ack(1, seq, who, alive(0)))
					wantHear(t, g, s, 900, m, then, nil, api.OK)
					wantHear(t, g, then, 900, m, then, nil, api.OK)
				}
				for _, m := range []api.Msg{ack(1, seq+1, who, alive(0)), ack(1, seq-1, who, alive(0)), ack(1, seq+1<<32, who, alive(0)), ack(1, seq, (who+1)%5, alive(0)), ack(1, seq, (who+4)%5, alive(0)), ack(1, seq, 1, alive(0))} {
					wantHear(t, g, s, 7, heard(3, m), s, nil, api.OK)
				}
			}
		}
	}
}

// Who asks for nobody gets no answer, though all numbers are 0.
func TestHearAckOfWhatWasNotAsked(t *testing.T) {
	g := usual()
	for _, s := range []api.Swim{mid(), of(1, alive(0), alive(0)), of(2, alive(0), alive(0), alive(0))} {
		for who := range s.Table {
			for _, seq := range []uint64{0, 1, 20, greatest} {
				wantHear(t, g, s, 7, heard(0, ack(s.Me, seq, who, alive(0))), s, nil, api.OK)
			}
		}
	}
}

func TestHearAckOfWhatIsKnown(t *testing.T) {
	g, s := usual(), mid()
	wantHear(t, g, s, 7, heard(0, ack(1, 9, 2, alive(5))), with(s, func(s *api.Swim) {
		s.Table[2], s.Told, s.Doubts = alive(5), []api.Told{told(2, alive(5), 6)}, nil
	}), nil, api.OK)
	wantHear(t, g, s, 7, heard(3, ack(1, 9, 2, suspect(4))), with(s, func(s *api.Swim) { s.Doubts[0].By = []int{0, 3} }), nil, api.OK)
	wantHear(t, g, s, 7, heard(3, ack(1, 9, 2, alive(4))), s, nil, api.OK)
	wantHear(t, g, s, 7, heard(3, ack(1, 9, 0, suspect(3))), with(s, func(s *api.Swim) {
		s.Table[0], s.Told, s.Doubts = suspect(3), []api.Told{told(0, suspect(3), 6)}, []api.Doubt{doubt(0, 3, 7, 3), doubt(2, 4, 0, 0)}
	}), nil, api.OK)
	// Of Me.
	wantHear(t, g, s, 7, heard(3, ack(1, 9, 1, dead(8))), with(s, func(s *api.Swim) {
		s.Table[1], s.Told = alive(9), []api.Told{told(1, alive(9), 6)}
	}), nil, api.OK)
	// Its news come first: of the same node, what is told by K is not news then.
	wantHear(t, g, s, 7, heard(3, ack(1, 9, 0, dead(4), newsOf(0, left(4)), newsOf(3, alive(6)))), with(s, func(s *api.Swim) {
		s.Table[0], s.Table[3], s.Told = left(4), alive(6), []api.Told{told(0, left(4), 6), told(3, alive(6), 6)}
	}), nil, api.OK)
}

func TestHearAckThatEndsAHelp(t *testing.T) {
	g, s := usual(), mid()
	s.Helps = []api.Help{help(30, 0, 3, 2, 40), help(31, 2, 3, 3, 41), help(31, 0, 4, 4, 42), help(31, 0, 5, 3, 43), help(32, 0, 6, 0, 44)}
	without := func(at int) api.Swim {
		return with(s, func(s *api.Swim) { s.Helps = slices.Delete(s.Helps, at, at+1) })
	}
	for _, by := range []int{0, 2, 3, 4} {
		wantHear(t, g, s, 7, heard(by, ack(1, 30, 0, alive(3))), without(0), from(1, ack(2, 40, 0, alive(3))), api.OK)
		wantHear(t, g, s, 7, heard(by, ack(1, 31, 2, alive(4))), without(1), from(1, ack(3, 41, 2, alive(4))), api.OK)
		// The first one of two that are alike.
		wantHear(t, g, s, 7, heard(by, ack(1, 31, 0, alive(3))), without(2), from(1, ack(4, 42, 0, alive(3))), api.OK)
		wantHear(t, g, without(2), 7, heard(by, ack(1, 31, 0, alive(3))), with(without(2), func(s *api.Swim) { s.Helps = slices.Delete(s.Helps, 2, 3) }), from(1, ack(3, 43, 0, alive(3))), api.OK)
		// For the one itself.
		wantHear(t, g, s, 7, heard(by, ack(1, 32, 0, alive(3))), without(4), from(1, ack(0, 44, 0, alive(3))), api.OK)
		for _, m := range []api.Msg{ack(1, 29, 0, alive(3)), ack(1, 30, 2, alive(4)), ack(1, 33, 0, alive(0)), ack(1, 40, 0, alive(0)), ack(1, 32, 2, alive(0)), ack(1, 31, 3, alive(0)), ack(1, 31, 1, alive(0))} {
			wantHear(t, g, s, 7, heard(by, m), s, nil, api.OK)
		}
	}
}

func TestHearAckOfAHelpTellsWhatItWasTold(t *testing.T) {
	g, s := usual(), mid()
	s.Helps = []api.Help{help(30, 0, 3, 2, 40)}
	s.Told = []api.Told{told(4, left(6), 1)}
	// What is less than what is known is told as it is.
	for _, k := range []api.Know{alive(3), alive(2), dead(2), left(0)} {
		wantHear(t, g, s, 7, heard(0, ack(1, 30, 0, k)), with(s, func(s *api.Swim) { s.Helps, s.Told = nil, nil }), from(1, ack(2, 40, 0, k, newsOf(4, left(6)))), api.OK)
	}
	// What is learnt goes along as news.
	wantHear(t, g, s, 7, heard(0, ack(1, 30, 0, alive(9))), with(s, func(s *api.Swim) {
		s.Helps, s.Told, s.Table[0] = nil, []api.Told{told(0, alive(9), 5)}, alive(9)
	}), from(1, ack(2, 40, 0, alive(9), newsOf(0, alive(9)), newsOf(4, left(6)))), api.OK)
}

// One answer may be to what was asked for itself, and for another one.
func TestHearAckOfBoth(t *testing.T) {
	g, s := usual(), mid()
	s.Probe = asked(0, 30, 3)
	s.Helps = []api.Help{help(30, 0, 3, 2, 40)}
	wantHear(t, g, s, 7, heard(0, ack(1, 30, 0, alive(3))), with(s, func(s *api.Swim) { s.Probe.Answered, s.Helps = true, nil }), from(1, ack(2, 40, 0, alive(3))), api.OK)
}

// NackM

func TestHearNack(t *testing.T) {
	g := usual()
	for _, s := range []api.Swim{mid(), full(), asking(alive(3)), of(1, alive(0), alive(0), alive(0), alive(0), alive(0))} {
		for _, seq := range append([]uint64{9, 19, 20, 17}, edgeNumbers...) {
			for who := range 5 {
				for _, by := range []int{0, 3, 4} {
					if by == s.Me {
						continue
					}
					wantHear(t, g, s, 40, heard(by, nack(s.Me, seq, who)), s, nil, api.OK)
				}
			}
		}
	}
}

// PullM, PushM

// wantTables fails if a table that is told, or pulled for, is not learnt, or, where it is pulled for, not answered by the own one.
func wantTables(t *testing.T, s api.Swim, table []api.Know, then api.Swim) {
	t.Helper()
	g := usual()
	wantHear(t, g, s, 7, heard(3, push(s.Me, table...)), then, nil, api.OK)
	wantHear(t, g, s, 7, heard(3, pull(s.Me, table...)), then, from(s.Me, push(3, then.Table...)), api.OK)
}

func TestHearTables(t *testing.T) {
	s := mid()
	// The same one, and one that knows less.
	wantTables(t, s, s.Table, with(s, func(s *api.Swim) { s.Doubts[0].By = []int{0, 3} }))
	wantTables(t, s, []api.Know{alive(2), alive(8), alive(4), suspect(5), dead(6)}, s)
	wantTables(t, s, []api.Know{left(2), left(7), dead(3), left(4), left(5)}, s)
	wantTables(t, s, make([]api.Know, 5), s)
	// One that knows better, of each; and of Me what is to be refuted.
	wantTables(t, s, []api.Know{suspect(3), suspect(8), dead(4), left(5), alive(7)}, with(s, func(s *api.Swim) {
		s.Table = []api.Know{suspect(3), alive(9), dead(4), left(5), alive(7)}
		s.Told = []api.Told{told(0, suspect(3), 6), told(1, alive(9), 6), told(2, dead(4), 6), told(3, left(5), 6), told(4, alive(7), 6)}
		s.Doubts = []api.Doubt{doubt(0, 3, 7, 3)}
	}))
	wantTables(t, s, []api.Know{alive(4), alive(9), suspect(5), suspect(6), suspect(7)}, with(s, func(s *api.Swim) {
		s.Table = []api.Know{alive(4), alive(10), suspect(5), suspect(6), suspect(7)}
		s.Told = []api.Told{told(0, alive(4), 6), told(1, alive(10), 6), told(2, suspect(5), 6), told(3, suspect(6), 6), told(4, suspect(7), 6)}
		s.Doubts = []api.Doubt{doubt(2, 5, 7, 3), doubt(3, 6, 7, 3), doubt(4, 7, 7, 3)}
	}))
	// Of Me what there is no answer to.
	wantTables(t, s, []api.Know{alive(3), dead(greatest), alive(4), dead(5), left(greatest)}, with(s, func(s *api.Swim) {
		s.Table[4], s.Told = left(greatest), []api.Told{told(4, left(greatest), 6)}
	}))
	// Of the one that says it.
	wantTables(t, s, []api.Know{alive(0), alive(0), alive(0), alive(6), alive(0)}, with(s, func(s *api.Swim) {
		s.Table[3], s.Told = alive(6), []api.Told{told(3, alive(6), 6)}
	}))
	// What is told along stays for messages that have news.
	s.Told = []api.Told{told(0, alive(3), 1)}
	wantTables(t, s, make([]api.Know, 5), s)
}

func TestHearTablesOfOtherNodes(t *testing.T) {
	g := usual()
	for _, n := range []int{2, 5, 63, 64} {
		s := api.Swim{Me: 1, Table: make([]api.Know, n)}
		for many := range 66 {
			for _, kind := range []int{api.PullM, api.PushM} {
				m := api.Msg{Kind: kind, To: 1, Table: slices.Repeat([]api.Know{dead(3)}, many)}
				if many != n {
					wantHear(t, g, s, 7, m, s, nil, api.ErrArg)
				} else if _, _, e := Hear(g, s, 7, m); e != api.OK {
					t.Errorf("Hear of a table of %d: %d", many, e)
				}
			}
		}
	}
}

// Refused

// some are messages of each kind to node 1, which a swim of 5 nodes hears.
func some() []api.Msg {
	table := []api.Know{alive(9), dead(9), suspect(9), left(9), alive(9)}
	l := []api.News{newsOf(0, dead(9)), newsOf(4, alive(9))}
	return []api.Msg{
		heard(0, ping(1, 5, dead(9), l...)), heard(3, req(1, 5, 2, l...)), heard(3, req(1, 5, 1, l...)), heard(3, req(1, 5, 3, l...)),
		heard(2, ack(1, 5, 4, alive(9), l...)), heard(4, nack(1, 5, 4)), heard(4, pull(1, table...)), heard(4, push(1, table...)),
	}
}

// wantNotHeard fails if a message is heard by some swim that has not left, or by one that has.
func wantNotHeard(t *testing.T, m api.Msg) {
	t.Helper()
	for _, s := range []api.Swim{mid(), with(mid(), func(s *api.Swim) { s.Table[1] = left(8) })} {
		wantHear(t, usual(), s, 7, m, s, nil, api.ErrArg)
	}
}

func TestHearOfNodesThatAreNone(t *testing.T) {
	for _, m := range some() {
		for _, bad := range badNodes(5) {
			m.From = bad
			wantNotHeard(t, m)
		}
	}
	for _, bad := range append(badNodes(5), 63) {
		for _, m := range some() {
			m.Who = bad
			wantNotHeard(t, m)
		}
		for _, m := range some()[:5] {
			for at := range m.News {
				x := cloneMsgs([]api.Msg{m})[0]
				x.News[at].Who = bad
				wantNotHeard(t, x)
			}
			m.News = append(slices.Repeat([]api.News{newsOf(0, dead(9))}, 7), newsOf(bad, dead(9)))
			wantNotHeard(t, m)
		}
	}
}

func TestHearOfOneThatIsNotToMe(t *testing.T) {
	for _, m := range some() {
		for _, bad := range append(badNodes(5), 0, 2, 3, 4) {
			m.To = bad
			wantNotHeard(t, m)
		}
		m.To, m.From = 1, 1
		wantNotHeard(t, m)
	}
}

func TestHearOfAnotherKind(t *testing.T) {
	for _, m := range []api.Msg{
		{Kind: api.AskM, Epoch: 1, Boot: 1, Asked: 1}, {Kind: api.GrantM, Epoch: 1, Boot: 1, Asked: 1}, {Kind: api.RefuseM, Epoch: 1, Boot: 1}, {Kind: api.PollM, Boot: 1, Asked: 1},
		{Kind: api.WorkM, Epoch: 1, Boot: 1, Asked: 1, Task: "a", Token: 1}, {Kind: api.DoneM, Task: "a", Token: 1, Good: true},
		{Kind: api.AskM}, {Kind: api.GrantM}, {Kind: api.RefuseM}, {Kind: api.PollM}, {Kind: api.WorkM, Task: "a"}, {Kind: api.DoneM, Task: "a"},
		{}, {Kind: 13}, {Kind: -1}, {Kind: 7}, {Kind: 1 << 32}, {Kind: 1<<32 + 1}, {Kind: math.MinInt}, {Kind: math.MaxInt},
	} {
		m.To = 1
		for _, m.From = range []int{0, 2, 3, 4} {
			wantNotHeard(t, m)
		}
	}
}

func TestHearOfMessagesThatMayNotBe(t *testing.T) {
	for at, m := range some() {
		wrong := func(change func(m *api.Msg)) {
			x := cloneMsgs([]api.Msg{m})[0]
			change(&x)
			wantNotHeard(t, x)
		}
		wrong(func(m *api.Msg) { m.Epoch = 1 })
		wrong(func(m *api.Msg) { m.Boot = 1 })
		wrong(func(m *api.Msg) { m.Asked = 1 })
		wrong(func(m *api.Msg) { m.Task = "a" })
		wrong(func(m *api.Msg) { m.Token = 1 })
		wrong(func(m *api.Msg) { m.Good = true })
		wrong(func(m *api.Msg) { m.K.State = 4 })
		wrong(func(m *api.Msg) { m.K.State = -1 })
		wrong(func(m *api.Msg) { m.News = make([]api.News, 9) })
		wrong(func(m *api.Msg) { m.News = []api.News{newsOf(0, known(1, 4))} })
		wrong(func(m *api.Msg) { m.News = append(m.News, newsOf(0, known(1, -1))) })
		if at < 6 {
			wrong(func(m *api.Msg) { m.Table = make([]api.Know, 5) })
			continue
		}
		wrong(func(m *api.Msg) { m.Table = nil })
		wrong(func(m *api.Msg) { m.Table = m.Table[:4] })
		wrong(func(m *api.Msg) { m.Table = append(m.Table, alive(0)) })
		wrong(func(m *api.Msg) { m.Seq = 1 })
		wrong(func(m *api.Msg) { m.Who = 2 })
		wrong(func(m *api.Msg) { m.News = make([]api.News, 1) })
		for place := range 5 {
			wrong(func(m *api.Msg) { m.Table[place].State = 4 })
			wrong(func(m *api.Msg) { m.Table[place].State = -1 })
		}
	}
}

func TestHearOfMeLeft(t *testing.T) {
	s := with(full(), func(s *api.Swim) { s.Me, s.Table[2], s.Table[4] = 2, left(12), left(14) })
	for _, g := range gossips() {
		for _, m := range some() {
			if m.To = 2; m.From == 2 {
				m.From = 1
			}
			if m.Table != nil {
				m.Table = append(m.Table, dead(99))
			}
			for _, now := range []int64{0, 40, last} {
				wantHear(t, g, s, now, m, s, nil, api.OK)
			}
		}
		wantHear(t, g, s, 40, heard(0, ack(2, 19, 0, alive(99))), s, nil, api.OK)
		wantHear(t, g, s, 40, heard(0, ack(2, 17, 1, alive(99))), s, nil, api.OK)
	}
}

// Where there is but one node, there is no message.
func TestHearAlone(t *testing.T) {
	s := of(0, alive(3))
	for kind := range 14 {
		for from := range 3 {
			for to := range 3 {
				m := api.Msg{Kind: kind, From: from, To: to}
				wantHear(t, usual(), s, 7, m, s, nil, api.ErrArg)
				m.Table = []api.Know{alive(3)}
				wantHear(t, usual(), s, 7, m, s, nil, api.ErrArg)
			}
		}
	}
}

func TestHearAtEachTick(t *testing.T) {
	for _, now := range edgeTicks {
		s := mid()
		wantHear(t, usual(), s, now, heard(3, req(1, 9, 0, newsOf(0, suspect(3)))), with(s, func(s *api.Swim) {
			s.Table[0], s.Told, s.Doubts = suspect(3), []api.Told{told(0, suspect(3), 5)}, []api.Doubt{doubt(0, 3, now, 3), doubt(2, 4, 0, 0)}
			s.Seq, s.Helps = 21, []api.Help{help(21, 0, now, 3, 9)}
		}), from(1, ping(0, 21, suspect(3), newsOf(0, suspect(3)))), api.OK)
	}
}

// Drawn

// wantHearLikeSlow fails if Hear does otherwise than the chapter tells.
func wantHearLikeSlow(t *testing.T, g api.Gossip, s api.Swim, now int64, m api.Msg) {
	t.Helper()
	w := slowOf(g, s, now, api.Dice{})
	w.hear(m)
	wantHear(t, g, s, now, m, w.swim(), w.said, api.OK)
}

func TestHearOfDrawn(t *testing.T) {
	r := rand.New(rand.NewSource(seed))
	for range 30000 {
		now := int64(r.Intn(40))
		if r.Intn(20) == 0 {
			now = last - now
		}
		n := max(2, drawnCount(r))
		s := drawn(r, n, now)
		wantHearLikeSlow(t, drawnGossip(r), s, now, drawnMsg(r, s))
	}
}
