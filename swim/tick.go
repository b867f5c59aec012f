package swim

import (
	"slices"

	"tattle/api"
	"tattle/dice"
	"tattle/grace"
	"tattle/know"
	"tattle/table"
	"tattle/turn"
)

// tick does all that is due at a tick.
func (w *working) tick() {
	w.bury()
	w.giveUp()
	w.askOthers()
	w.askNext()
	w.endHelps()
	w.pull()
}

// bury holds those for dead that were doubted for long enough.
func (w *working) bury() {
	ripe, _, _ := grace.Ripe(w.Doubts, w.g.R, len(w.Table), w.now)
	for _, x := range ripe {
		w.learn(api.News{Who: x.Who, K: api.Know{Inc: x.Inc, State: api.Dead}}, w.Me)
	}
}

// giveUp asks no more for the one that had its time, and doubts it, if it did not answer.
func (w *working) giveUp() {
	p := w.Probe
	if !p.On || !w.isOver(p.At, w.g.Period) {
		return
	}
	if k := w.Table[p.Who]; !p.Answered && know.Up(k) {
		w.learn(api.News{Who: p.Who, K: api.Know{Inc: k.Inc, State: api.Suspect}}, w.Me)
	}
	w.Probe = api.Probe{}
}

// askOthers lets others ask for the one that did not answer at once.
func (w *working) askOthers() {
	p := w.Probe
	if !p.On || p.Answered || p.Asked || !w.isOver(p.At, w.g.Direct) {
		return
	}
	w.Probe.Asked = true
	up := slices.DeleteFunc(table.Up(w.Table), func(who int) bool { return who == w.Me || who == p.Who })
	for _, who := range w.pick(up, w.g.Helpers) {
		w.say(api.Msg{Kind: api.ReqM, To: who, Seq: p.Seq, Who: p.Who, News: w.news()})
	}
}

// pick is so many of some nodes, by the dice.
func (w *working) pick(l []int, k int) []int {
	var picked []int
	picked, w.dice, _ = dice.Pick(w.dice, l, k)
	return picked
}

// others is the nodes that may be asked.
func (w *working) others() []int { return table.Others(w.Table, w.Me) }

// askNext asks the next one, if it asks nobody.
func (w *working) askNext() {
	if w.Probe.On {
		return
	}
	who, order, rolled, e := turn.Next(w.Turn, w.dice, w.others())
	if e != api.OK {
		return
	}
	w.Turn, w.dice = order, rolled
	w.Probe = api.Probe{On: true, Who: who, Seq: w.ping(who), At: w.now}
}

// endHelps says of whom it could not tell whether they are there.
func (w *working) endHelps() {
	var young []api.Help
	for _, h := range w.Helps {
		if w.isOver(h.At, w.g.Direct) {
			w.say(api.Msg{Kind: api.NackM, To: h.For, Seq: h.Theirs, Who: h.Who})
		} else {
			young = append(young, h)
		}
	}
	w.Helps = young
}

// pull tells its table to one, and so asks for that one's.
func (w *working) pull() {
	if w.g.Sync == 0 || w.now%w.g.Sync != 0 {
		return
	}
	for _, who := range w.pick(w.others(), 1) {
		w.say(api.Msg{Kind: api.PullM, To: who, Table: slices.Clone(w.Table)})
	}
}
