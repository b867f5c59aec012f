package swim

import (
	"slices"
	"strconv"

	"tattle/api"
)

// slow is a swim at work as the chapter tells it, in maps, and by nothing of the layers below.
type slow struct {
	g      api.Gossip
	n, me  int
	now    int64
	held   map[int]api.Know
	told   map[int]api.Told
	order  []int
	met    int
	doubts map[int]slowDoubt
	seq    uint64
	probe  api.Probe
	helps  []api.Help
	octets string
	said   []api.Msg
}

// slowDoubt is a doubt, and by whom.
type slowDoubt struct {
	inc uint64
	at  int64
	by  map[int]bool
}

func slowOf(g api.Gossip, s api.Swim, now int64, d api.Dice) *slow {
	w := &slow{g: g, n: len(s.Table), me: s.Me, now: now, held: map[int]api.Know{}, told: map[int]api.Told{}, order: s.Turn.L, met: s.Turn.At, doubts: map[int]slowDoubt{}, seq: s.Seq, probe: s.Probe, octets: d.L[d.At:]}
	for who, k := range s.Table {
		w.held[who] = k
	}
	for _, x := range s.Told {
		w.told[x.N.Who] = x
	}
	for _, x := range s.Doubts {
		w.doubts[x.Who] = slowDoubt{x.Inc, x.At, map[int]bool{}}
		for _, by := range x.By {
			w.doubts[x.Who].by[by] = true
		}
	}
	w.helps = append(w.helps, s.Helps...)
	return w
}

// swim is the swim then.
func (w *slow) swim() api.Swim {
	s := api.Swim{Me: w.me, Turn: api.Turn{L: w.order, At: w.met}, Seq: w.seq, Probe: w.probe, Helps: w.helps}
	for who := range w.n {
		s.Table = append(s.Table, w.held[who])
		if x, there := w.told[who]; there {
			s.Told = append(s.Told, x)
		}
		if x, there := w.doubts[who]; there {
			var by []int
			for b := range w.n {
				if x.by[b] {
					by = append(by, b)
				}
			}
			s.Doubts = append(s.Doubts, doubt(who, x.inc, x.at, by...))
		}
	}
	return s
}

// dice are the dice then.
func (w *slow) dice(d api.Dice) api.Dice { return api.Dice{L: d.L, At: len(d.L) - len(w.octets)} }

func (w *slow) draw(m int) int {
	if w.octets == "" {
		return 0
	}
	o := w.octets[0]
	w.octets = w.octets[1:]
	return int(o) % m
}

func (w *slow) shuffled(l []int) []int {
	l = slices.Clone(l)
	for i := len(l) - 1; i > 0; i-- {
		j := w.draw(i + 1)
		l[i], l[j] = l[j], l[i]
	}
	return l
}

func (w *slow) picked(l []int, k int) []int {
	l = w.shuffled(l)
	for len(l) > k {
		l = l[:len(l)-1]
	}
	return l
}

// others are the nodes but its own, and those that have left.
func (w *slow) others() []int {
	var l []int
	for who := range w.n {
		if who != w.me && w.held[who].State != 3 {
			l = append(l, who)
		}
	}
	return l
}

func slowBeats(a, b api.Know) bool {
	if a.Inc == b.Inc {
		return a.State > b.State
	}
	return a.Inc > b.Inc
}

// digits is how many bits a number takes.
func digits(n int) int { return len(strconv.FormatInt(int64(n), 2)) }

// grace is what a doubt with so many confirmations is waited for.
func (w *slow) grace(c int) int64 {
	least := w.g.R.Min * digits(w.n)
	if w.g.R.All == 0 {
		return int64(least)
	}
	if c > w.g.R.All {
		c = w.g.R.All
	}
	most := least * w.g.R.Most
	return int64(most - (most-least)*c/w.g.R.All)
}

// tell lets something be told.
func (w *slow) tell(n api.News) {
	if x, there := w.told[n.Who]; there && !slowBeats(n.K, x.N.K) {
		return
	}
	w.told[n.Who] = api.Told{N: n, Left: w.g.Factor * digits(w.n)}
}

// news are taken one by one: of those with most left, and that were not taken yet, the least.
func (w *slow) news() []api.News {
	var l []api.News
	taken := map[int]bool{}
	for range w.g.News {
		most := -1
		for who := range w.n {
			x, there := w.told[who]
			if there && !taken[who] && (most < 0 || x.Left > w.told[most].Left) {
				most = who
			}
		}
		if most < 0 {
			break
		}
		taken[most] = true
		l = append(l, w.told[most].N)
	}
	for who := range taken {
		x := w.told[who]
		if x.Left--; x.Left == 0 {
			delete(w.told, who)
		} else {
			w.told[who] = x
		}
	}
	return l
}

func (w *slow) learn(n api.News, by int) {
	was := w.held[n.Who]
	if n.Who == w.me {
		// The least incarnation by which it is Alive, and that is not less, and that is not beaten.
		inc := was.Inc
		if was.State == 3 || n.K == was || n.K.Inc < inc || n.K.Inc == greatest {
			return
		}
		inc = n.K.Inc + 1
		w.held[w.me] = alive(inc)
		w.tell(newsOf(w.me, alive(inc)))
		return
	}
	if slowBeats(n.K, was) {
		w.held[n.Who] = n.K
		w.tell(n)
		delete(w.doubts, n.Who)
	}
	if w.held[n.Who] == n.K && n.K.State == 1 {
		if w.doubts[n.Who].by == nil {
			w.doubts[n.Who] = slowDoubt{n.K.Inc, w.now, map[int]bool{}}
		}
		w.doubts[n.Who].by[by] = true
	}
}

func (w *slow) say(m api.Msg) {
	m.From = w.me
	w.said = append(w.said, m)
}

func (w *slow) ping(who int) {
	if w.seq == greatest {
		w.seq = 0
	} else {
		w.seq++
	}
	w.say(api.Msg{Kind: 1, To: who, Seq: w.seq, K: w.held[who], News: w.news()})
}

func (w *slow) tick() {
	if w.held[w.me].State == 3 {
		return
	}
	var ripe []int
	for who := range w.n {
		if x, there := w.doubts[who]; there && x.at+w.grace(len(x.by)-1) <= w.now {
			ripe = append(ripe, who)
		}
	}
	for _, who := range ripe {
		w.learn(newsOf(who, dead(w.doubts[who].inc)), w.me)
	}
	w.tickProbe()
	if !w.probe.On {
		w.tickNext()
	}
	var helps []api.Help
	for _, h := range w.helps {
		if h.At+w.g.Direct > w.now {
			helps = append(helps, h)
			continue
		}
		w.say(api.Msg{Kind: 4, To: h.For, Seq: h.Theirs, Who: h.Who})
	}
	w.helps = helps
	if w.g.Sync > 0 && w.now%w.g.Sync == 0 {
		for _, who := range w.picked(w.others(), 1) {
			w.say(api.Msg{Kind: 5, To: who, Table: w.swim().Table})
		}
	}
}

// tickProbe is what is done about the one that is asked for.
func (w *slow) tickProbe() {
	if !w.probe.On {
		return
	}
	who := w.probe.Who
	if w.probe.At+w.g.Period <= w.now {
		if !w.probe.Answered && w.held[who].State < 2 {
			w.learn(newsOf(who, suspect(w.held[who].Inc)), w.me)
		}
		w.probe = api.Probe{}
		return
	}
	if w.probe.At+w.g.Direct > w.now || w.probe.Answered || w.probe.Asked {
		return
	}
	w.probe.Asked = true
	var up []int
	for other := range w.n {
		if other != w.me && other != who && w.held[other].State < 2 {
			up = append(up, other)
		}
	}
	for _, other := range w.picked(up, w.g.Helpers) {
		w.say(api.Msg{Kind: 2, To: other, Seq: w.probe.Seq, Who: who, News: w.news()})
	}
}

// tickNext asks the next one.
func (w *slow) tickNext() {
	l := w.others()
	if len(l) == 0 {
		return
	}
	at := w.met
	for at < len(w.order) && !slices.Contains(l, w.order[at]) {
		at++
	}
	if at == len(w.order) {
		w.order, at = w.shuffled(l), 0
	}
	w.met = at + 1
	w.ping(w.order[at])
	w.probe = api.Probe{On: true, Who: w.order[at], Seq: w.seq, At: w.now}
}

func (w *slow) hear(m api.Msg) {
	if w.held[w.me].State == 3 {
		return
	}
	for _, n := range m.News {
		w.learn(n, m.From)
	}
	switch m.Kind {
	case 1:
		w.learn(newsOf(w.me, m.K), m.From)
		w.say(api.Msg{Kind: 3, To: m.From, Seq: m.Seq, Who: w.me, K: w.held[w.me], News: w.news()})
	case 2:
		w.hearReq(m)
	case 3:
		w.learn(newsOf(m.Who, m.K), m.From)
		w.hearAck(m)
	case 5, 6:
		for who, k := range m.Table {
			w.learn(newsOf(who, k), m.From)
		}
		if m.Kind == 5 {
			w.say(api.Msg{Kind: 6, To: m.From, Table: w.swim().Table})
		}
	}
}

func (w *slow) hearReq(m api.Msg) {
	if m.Who == w.me {
		w.say(api.Msg{Kind: 3, To: m.From, Seq: m.Seq, Who: w.me, K: w.held[w.me], News: w.news()})
		return
	}
	if m.Who == m.From || len(w.helps) >= 16 {
		w.say(api.Msg{Kind: 4, To: m.From, Seq: m.Seq, Who: m.Who})
		return
	}
	w.ping(m.Who)
	w.helps = append(w.helps, help(w.seq, m.Who, w.now, m.From, m.Seq))
}

func (w *slow) hearAck(m api.Msg) {
	if w.probe.On && w.probe.Who == m.Who && w.probe.Seq == m.Seq {
		w.probe.Answered = true
	}
	for at, h := range w.helps {
		if h.Seq == m.Seq && h.Who == m.Who {
			w.helps = slices.Concat(w.helps[:at], w.helps[at+1:])
			w.say(api.Msg{Kind: 3, To: h.For, Seq: h.Theirs, Who: m.Who, K: m.K, News: w.news()})
			return
		}
	}
}

// slowMay: may a swim be, as the chapter tells it, node by node?
func slowMay(s api.Swim) bool {
	n := len(s.Table)
	node := func(who int) bool { return who >= 0 && who < n }
	tick := func(at int64) bool { return at >= 0 && at <= 1<<40 }
	if n < 1 || n > 64 || !node(s.Me) || s.Table[s.Me].State%3 != 0 {
		return false
	}
	for who, k := range s.Table {
		if k.State < 0 || k.State > 3 {
			return false
		}
		doubts := 0
		for _, x := range s.Doubts {
			if x.Who == who {
				doubts++
			}
			if x.Who == who && (k.State != 1 || x.Inc != k.Inc) {
				return false
			}
		}
		if k.State == 1 && doubts != 1 {
			return false
		}
	}
	before := -1
	for _, x := range s.Told {
		if !node(x.N.Who) || x.N.Who <= before || x.N.K.State < 0 || x.N.K.State > 3 || x.Left < 1 || x.Left > 64 {
			return false
		}
		before = x.N.Who
	}
	met := map[int]bool{}
	for _, who := range s.Turn.L {
		if !node(who) || met[who] {
			return false
		}
		met[who] = true
	}
	before = -1
	for _, x := range s.Doubts {
		if !node(x.Who) || x.Who <= before || !tick(x.At) || len(x.By) == 0 {
			return false
		}
		before = x.Who
		for at, by := range x.By {
			if !node(by) || at > 0 && by <= x.By[at-1] {
				return false
			}
		}
	}
	for _, h := range s.Helps {
		if !node(h.For) || !node(h.Who) || h.For == s.Me || h.Who == s.Me || !tick(h.At) {
			return false
		}
	}
	p := s.Probe
	if !p.On && (p.Who != 0 || p.Seq != 0 || p.At != 0 || p.Asked || p.Answered) || p.On && (!node(p.Who) || p.Who == s.Me || !tick(p.At)) {
		return false
	}
	return s.Turn.At >= 0 && s.Turn.At <= len(s.Turn.L) && len(s.Helps) <= 16
}
