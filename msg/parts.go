package msg

import (
	"tattle/api"
	"tattle/know"
	"tattle/table"
	"tattle/wire"
)

// The parts that messages of some kinds have.
const (
	seqPart = iota
	whoPart
	knowPart
	newsPart
	tablePart
	epochPart
	bootPart
	askedPart
	taskPart
	tokenPart
	goodPart
)

// partsOf is the parts that a kind of messages has, in order; of what is no kind, none.
func partsOf(kind int) []int {
	switch kind {
	case api.PingM:
		return []int{seqPart, knowPart, newsPart}
	case api.ReqM:
		return []int{seqPart, whoPart, newsPart}
	case api.AckM:
		return []int{seqPart, whoPart, knowPart, newsPart}
	case api.NackM:
		return []int{seqPart, whoPart}
	case api.PullM, api.PushM:
		return []int{tablePart}
	case api.AskM, api.GrantM:
		return []int{epochPart, bootPart, askedPart}
	case api.RefuseM:
		return []int{epochPart, bootPart}
	case api.PollM:
		return []int{bootPart, askedPart}
	case api.WorkM:
		return []int{epochPart, bootPart, askedPart, taskPart, tokenPart}
	case api.DoneM:
		return []int{taskPart, tokenPart, goodPart}
	}
	return nil
}

// part is what is done to a part of a message: whether it may be, whether it is zero, what its octets are, and how it is taken from octets.
type part struct {
	may, zero func(m api.Msg) bool
	lay       func(m api.Msg) string
	take      func(t *taking, m *api.Msg)
}

// parts is the table of all parts.
func parts() map[int]part {
	return map[int]part{
		seqPart:   number(func(m api.Msg) uint64 { return m.Seq }, func(m *api.Msg, n uint64) { m.Seq = n }),
		epochPart: number(func(m api.Msg) uint64 { return m.Epoch }, func(m *api.Msg, n uint64) { m.Epoch = n }),
		bootPart:  number(func(m api.Msg) uint64 { return m.Boot }, func(m *api.Msg, n uint64) { m.Boot = n }),
		tokenPart: number(func(m api.Msg) uint64 { return m.Token }, func(m *api.Msg, n uint64) { m.Token = n }),
		whoPart: {
			may:  func(m api.Msg) bool { return isNode(m.Who) },
			zero: func(m api.Msg) bool { return m.Who == 0 },
			lay:  func(m api.Msg) string { return wire.Num(uint64(m.Who)) },
			take: func(t *taking, m *api.Msg) { m.Who = t.node() },
		},
		knowPart: {
			may:  func(m api.Msg) bool { return know.Check(m.K) == api.OK },
			zero: func(m api.Msg) bool { return m.K == api.Know{} },
			lay:  func(m api.Msg) string { return layKnow(m.K) },
			take: func(t *taking, m *api.Msg) { m.K = t.know() },
		},
		newsPart: {
			may:  func(m api.Msg) bool { return mayNews(m.News) },
			zero: func(m api.Msg) bool { return len(m.News) == 0 },
			lay:  func(m api.Msg) string { return layList(m.News, layNews) },
			take: func(t *taking, m *api.Msg) { m.News = takeList(t, api.MaxNews, t.news) },
		},
		tablePart: {
			may:  func(m api.Msg) bool { return table.Check(m.Table) == api.OK },
			zero: func(m api.Msg) bool { return len(m.Table) == 0 },
			lay:  func(m api.Msg) string { return layList(m.Table, layKnow) },
			take: func(t *taking, m *api.Msg) { m.Table = takeList(t, api.MaxNodes, t.know) },
		},
		askedPart: {
			may:  func(m api.Msg) bool { return m.Asked >= 0 && m.Asked <= api.MaxTicks },
			zero: func(m api.Msg) bool { return m.Asked == 0 },
			lay:  func(m api.Msg) string { return wire.Num(uint64(m.Asked)) },
			take: func(t *taking, m *api.Msg) { m.Asked = int64(t.number(api.MaxTicks)) },
		},
		taskPart: {
			may:  func(m api.Msg) bool { return Name(m.Task) },
			zero: func(m api.Msg) bool { return m.Task == "" },
			lay:  func(m api.Msg) string { return layText(m.Task) },
			take: func(t *taking, m *api.Msg) { m.Task = t.text() },
		},
		goodPart: {
			may:  always,
			zero: func(m api.Msg) bool { return !m.Good },
			lay:  func(m api.Msg) string { return layGood(m.Good) },
			take: func(t *taking, m *api.Msg) { m.Good = t.number(1) == 1 },
		},
	}
}

// always is for a part that may be whatever it is.
func always(api.Msg) bool { return true }

// number is a part that is a number, whichever.
func number(of func(m api.Msg) uint64, put func(m *api.Msg, n uint64)) part {
	return part{
		may:  always,
		zero: func(m api.Msg) bool { return of(m) == 0 },
		lay:  func(m api.Msg) string { return wire.Num(of(m)) },
		take: func(t *taking, m *api.Msg) { put(m, t.number(anyNumber)) },
	}
}

// mayNews: may news be in a message?
func mayNews(l []api.News) bool {
	if len(l) > api.MaxNews {
		return false
	}
	for _, n := range l {
		if !isNode(n.Who) || know.Check(n.K) != api.OK {
			return false
		}
	}
	return true
}
