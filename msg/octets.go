package msg

import (
	"math"

	"tattle/api"
	"tattle/wire"
)

// anyNumber is the greatest number that there is.
const anyNumber = math.MaxUint64

// layKnow is the octets of what is known.
func layKnow(k api.Know) string { return wire.Num(k.Inc, uint64(k.State)) }

// layNews is those of what is told.
func layNews(n api.News) string { return wire.Num(uint64(n.Who)) + layKnow(n.K) }

// layList is how many there are, and each one.
func layList[T any](l []T, lay func(x T) string) string {
	s := wire.Num(uint64(len(l)))
	for _, x := range l {
		s += lay(x)
	}
	return s
}

// layText is a text's octets, which is a task's name, and so not too long.
func layText(x string) string {
	s, _ := wire.Text(x)
	return s
}

// layGood is 0 or 1.
func layGood(good bool) string {
	if good {
		return wire.Num(1)
	}
	return wire.Num(0)
}

// taking is octets that are taken, from where on, and whether something of them was wrong: that stays, and what is taken then counts for nothing.
type taking struct {
	octets string
	at     int
	wrong  bool
}

// number takes a number up to the greatest one that may be. It is asked here, ahead of Check, so that it fits wherever it is put, and a list does not grow by what a text says alone.
func (t *taking) number(most uint64) uint64 {
	n, at, e := wire.TakeNum(t.octets, t.at)
	if e != api.OK || n > most {
		t.wrong = true
		return 0
	}
	t.at = at
	return n
}

// node takes a node's number.
func (t *taking) node() int { return int(t.number(api.MaxNodes - 1)) }

// know takes what is known.
func (t *taking) know() api.Know {
	inc := t.number(anyNumber)
	return api.Know{Inc: inc, State: int(t.number(api.Left))}
}

// news takes what is told of a node.
func (t *taking) news() api.News {
	who := t.node()
	return api.News{Who: who, K: t.know()}
}

// takeList takes how many there are, and each one.
func takeList[T any](t *taking, most uint64, take func() T) []T {
	var l []T
	for range t.number(most) {
		l = append(l, take())
	}
	return l
}

// text takes a text.
func (t *taking) text() string {
	x, at, e := wire.TakeText(t.octets, t.at)
	if e != api.OK {
		t.wrong = true
		return ""
	}
	t.at = at
	return x
}

// message takes a message, with the parts that its kind has.
func (t *taking) message() api.Msg {
	var m api.Msg
	m.Kind = int(t.number(api.DoneM))
	m.From = t.node()
	m.To = t.node()
	table := parts()
	for _, name := range partsOf(m.Kind) {
		table[name].take(t, &m)
	}
	return m
}
