package swim

import (
	"slices"

	"tattle/api"
	"tattle/grace"
	"tattle/know"
	"tattle/news"
)

// working is a swim at work: how it gossips, when, by which dice, and what it has said. As all of it may be, no layer below finds a fault in it.
type working struct {
	api.Swim
	g    api.Gossip
	now  int64
	dice api.Dice
	said []api.Msg
}

// copied is a swim in memory of its own.
func copied(s api.Swim) api.Swim {
	s.Table, s.Told, s.Helps = slices.Clone(s.Table), slices.Clone(s.Told), slices.Clone(s.Helps)
	s.Turn.L, s.Doubts = slices.Clone(s.Turn.L), slices.Clone(s.Doubts)
	for at := range s.Doubts {
		s.Doubts[at].By = slices.Clone(s.Doubts[at].By)
	}
	return s
}

// hasLeft: has its own node left?
func (w *working) hasLeft() bool { return w.Table[w.Me].State == api.Left }

// isOver: has something that began at a tick lasted so long, or longer?
func (w *working) isOver(at, long int64) bool { return w.now-at >= long }

// hold holds a node for what is known of it now, and lets that be told.
func (w *working) hold(n api.News) {
	w.Table[n.Who] = n.K
	often, _ := news.Budget(len(w.Table), w.g.Factor)
	w.Told, _ = news.Add(w.Told, n, often)
}

// news is what is told along with a message.
func (w *working) news() []api.News {
	var next []api.News
	next, w.Told, _ = news.Take(w.Told, w.g.News)
	return next
}

// learn learns something of a node, by another one.
func (w *working) learn(n api.News, by int) {
	if n.Who == w.Me {
		w.refute(n.K)
		return
	}
	known := w.Table[n.Who]
	beats := know.Beats(n.K, known)
	if beats {
		w.hold(n)
	}
	switch {
	case n.K.State == api.Suspect && (beats || n.K == known):
		w.Doubts, _ = grace.Raise(w.Doubts, n.Who, n.K.Inc, by, w.now)
	case beats:
		w.Doubts, _ = grace.Clear(w.Doubts, n.Who, n.K.Inc)
	}
}

// refute answers what is told of its own node.
func (w *working) refute(k api.Know) {
	if w.hasLeft() {
		return
	}
	own := w.Table[w.Me].Inc
	// Above the greatest incarnation there is none to answer by: it stays as it was.
	inc, e := know.Refute(own, k)
	if e == api.OK && inc != own {
		w.hold(api.News{Who: w.Me, K: api.Know{Inc: inc, State: api.Alive}})
	}
}

// say says a message to another node.
func (w *working) say(m api.Msg) {
	m.From = w.Me
	w.said = append(w.said, m)
}

// ping asks a node whether it is there, and tells by which number.
func (w *working) ping(who int) uint64 {
	w.Seq++ // behind the greatest one that is 0
	w.say(api.Msg{Kind: api.PingM, To: who, Seq: w.Seq, K: w.Table[who], News: w.news()})
	return w.Seq
}
