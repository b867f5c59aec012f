package swim

import (
	"slices"

	"tattle/api"
)

// hearing is what each kind of messages that are heard does.
func hearing() map[int]func(w *working, m api.Msg) {
	return map[int]func(w *working, m api.Msg){
		api.PingM: (*working).hearPing,
		api.ReqM:  (*working).hearReq,
		api.AckM:  (*working).hearAck,
		api.NackM: (*working).hearNack,
		api.PullM: (*working).hearPull,
		api.PushM: (*working).hearPush,
	}
}

// hear hears a message, whose news come first.
func (w *working) hear(m api.Msg) {
	for _, n := range m.News {
		w.learn(n, m.From)
	}
	hearing()[m.Kind](w, m)
}

// hearPing is asked whether it is there.
func (w *working) hearPing(m api.Msg) {
	w.learn(api.News{Who: w.Me, K: m.K}, m.From)
	w.here(m)
}

// here says that it is there.
func (w *working) here(m api.Msg) {
	w.say(api.Msg{Kind: api.AckM, To: m.From, Seq: m.Seq, Who: w.Me, K: w.Table[w.Me], News: w.news()})
}

// hearReq is asked to ask whether another one is there.
func (w *working) hearReq(m api.Msg) {
	switch {
	case m.Who == w.Me:
		w.here(m)
	case m.Who == m.From || len(w.Helps) == api.MaxHelps:
		w.say(api.Msg{Kind: api.NackM, To: m.From, Seq: m.Seq, Who: m.Who})
	default:
		w.Helps = append(w.Helps, api.Help{Seq: w.ping(m.Who), For: m.From, Theirs: m.Seq, Who: m.Who, At: w.now})
	}
}

// hearAck is told that somebody is there: the one that it asks for, or one that it asks for another one.
func (w *working) hearAck(m api.Msg) {
	w.learn(api.News{Who: m.Who, K: m.K}, m.From)
	if w.Probe.On && w.Probe.Who == m.Who && w.Probe.Seq == m.Seq {
		w.Probe.Answered = true
	}
	at := slices.IndexFunc(w.Helps, func(h api.Help) bool { return h.Seq == m.Seq && h.Who == m.Who })
	if at < 0 {
		return
	}
	h := w.Helps[at]
	w.Helps = slices.Delete(w.Helps, at, at+1)
	w.say(api.Msg{Kind: api.AckM, To: h.For, Seq: h.Theirs, Who: h.Who, K: m.K, News: w.news()})
}

// hearNack is told that another one could not tell, which is as if nothing were told.
func (w *working) hearNack(api.Msg) {}

// hearPull is told a table, and tells its own.
func (w *working) hearPull(m api.Msg) {
	w.hearPush(m)
	w.say(api.Msg{Kind: api.PushM, To: m.From, Table: slices.Clone(w.Table)})
}

// hearPush is told a table.
func (w *working) hearPush(m api.Msg) {
	for who, k := range m.Table {
		w.learn(api.News{Who: who, K: k}, m.From)
	}
}
