package swim

import (
	"cmp"
	"slices"

	"tattle/api"
)

// The least and the greatest numbers of gossip that api does not have.
const (
	minPeriod  = 2
	maxPeriod  = 1000
	maxSync    = 10000
	maxHelpers = 8
)

// isWithin: is it no less than the least, and no more than the most?
func isWithin[T cmp.Ordered](x, least, most T) bool { return x >= least && x <= most }

// isTick: is it a tick that may be?
func isTick(at int64) bool { return isWithin(at, 0, api.MaxTicks) }

// isNamed: is it one of a swim's nodes?
func isNamed(s api.Swim, who int) bool { return isWithin(who, 0, len(s.Table)-1) }

// isAnother: is it one of a swim's nodes, and another one than its own?
func isAnother(s api.Swim, who int) bool { return isNamed(s, who) && who != s.Me }

// isMyself: may a node know that of itself?
func isMyself(k api.Know) bool { return k.State == api.Alive || k.State == api.Left }

// names is the nodes that are named by what is told, the turn, and the doubts.
func names(s api.Swim) []int {
	l := slices.Clone(s.Turn.L)
	for _, x := range s.Told {
		l = append(l, x.N.Who)
	}
	for _, x := range s.Doubts {
		l = append(append(l, x.Who), x.By...)
	}
	return l
}

// namesItsOwn: are those the swim's nodes alone?
func namesItsOwn(s api.Swim) bool {
	return !slices.ContainsFunc(names(s), func(who int) bool { return !isNamed(s, who) })
}

// doubtsSuspects: is there a doubt of each node that is suspect, and no other one? That its own node is not doubted follows, as that is not suspect.
func doubtsSuspects(s api.Swim) bool {
	suspects := 0
	for _, k := range s.Table {
		if k.State == api.Suspect {
			suspects++
		}
	}
	// Of a node there is one doubt at most, so that none is missing where they are as many.
	others := slices.ContainsFunc(s.Doubts, func(x api.Doubt) bool {
		return s.Table[x.Who] != api.Know{Inc: x.Inc, State: api.Suspect}
	})
	return !others && len(s.Doubts) == suspects
}

// mayAsk: may the one that it asks for be?
func mayAsk(s api.Swim) bool {
	return s.Probe == api.Probe{} || s.Probe.On && isAnother(s, s.Probe.Who) && isTick(s.Probe.At)
}

// mayHelp: may those that it helps be?
func mayHelp(s api.Swim) bool {
	if len(s.Helps) > api.MaxHelps {
		return false
	}
	return !slices.ContainsFunc(s.Helps, func(h api.Help) bool {
		return !isAnother(s, h.For) || !isAnother(s, h.Who) || !isTick(h.At)
	})
}

// checkWorking says whether a swim may be at work then.
func checkWorking(g api.Gossip, s api.Swim, now int64) api.Errno {
	if !isTick(now) {
		return api.ErrArg
	}
	return cmp.Or(May(g), Check(s))
}

// isHeard: is a message, that may be, one that a swim hears?
func isHeard(s api.Swim, m api.Msg) bool {
	stranger := slices.ContainsFunc(m.News, func(n api.News) bool { return !isNamed(s, n.Who) })
	// Where a kind has no Who, that is 0, and where it has no table, that has no nodes.
	return m.Kind <= api.PushM && m.To == s.Me && isNamed(s, m.From) && isNamed(s, m.Who) && !stranger &&
		(len(m.Table) == 0 || len(m.Table) == len(s.Table))
}
