package msg

import (
	"slices"
	"strings"
	"testing"

	"tattle/api"
)

// P10.2: Write.

// Octets of the greatest number, of what is known by it, and of the last tick.
const (
	maxOctets  = "\xff\xff\xff\xff\xff\xff\xff\xff\xff\x01"
	leftOctets = maxOctets + "\x03"
	lastOctets = "\x80\x80\x80\x80\x80\x20"
)

func TestWriteOfTheExample(t *testing.T) {
	wantWrite(t, api.Msg{Kind: api.NackM, From: 1, To: 2, Seq: 5, Who: 3}, "\x04\x01\x02\x05\x03")
	s, _ := Write(api.Msg{Kind: api.NackM, From: 1, To: 2, Seq: 5, Who: 3})
	if s != "\x04\x01\x02\x05\x03\x29\x47\xe4\x6c" {
		t.Errorf("Write of the example: %x", s)
	}
}

func TestWriteOfTheLeastOfEachKind(t *testing.T) {
	for kind, octets := range map[int]string{
		api.PingM:   "\x01\x00\x01\x00\x00\x00\x00",
		api.ReqM:    "\x02\x00\x01\x00\x00\x00",
		api.AckM:    "\x03\x00\x01\x00\x00\x00\x00\x00",
		api.NackM:   "\x04\x00\x01\x00\x00",
		api.PullM:   "\x05\x00\x01\x01\x00\x00",
		api.PushM:   "\x06\x00\x01\x01\x00\x00",
		api.AskM:    "\x07\x00\x01\x00\x00\x00",
		api.GrantM:  "\x08\x00\x01\x00\x00\x00",
		api.RefuseM: "\x09\x00\x01\x00\x00",
		api.PollM:   "\x0a\x00\x01\x00\x00",
		api.WorkM:   "\x0b\x00\x01\x00\x00\x00\x01-\x00",
		api.DoneM:   "\x0c\x00\x01\x01-\x00\x00",
	} {
		wantWrite(t, least(kind), octets)
	}
}

func TestWriteOfAUsualOneOfEachKind(t *testing.T) {
	news := "\x02\x05\xae\x02\x02\x06\xaf\x02\x03"
	table := "\x03\xb0\x02\x01\xb1\x02\x00\xb2\x02\x03"
	for kind, octets := range map[int]string{
		api.PingM:   "\x01\x14\x15\xac\x02\xad\x02\x01" + news,
		api.ReqM:    "\x02\x14\x15\xac\x02\x03" + news,
		api.AckM:    "\x03\x14\x15\xac\x02\x03\xad\x02\x01" + news,
		api.NackM:   "\x04\x14\x15\xac\x02\x03",
		api.PullM:   "\x05\x14\x15" + table,
		api.PushM:   "\x06\x14\x15" + table,
		api.AskM:    "\x07\x14\x15\xb3\x02\xb4\x02\xb5\x02",
		api.GrantM:  "\x08\x14\x15\xb3\x02\xb4\x02\xb5\x02",
		api.RefuseM: "\x09\x14\x15\xb3\x02\xb4\x02",
		api.PollM:   "\x0a\x14\x15\xb4\x02\xb5\x02",
		api.WorkM:   "\x0b\x14\x15\xb3\x02\xb4\x02\xb5\x02\x05job-1\xb6\x02",
		api.DoneM:   "\x0c\x14\x15\x05job-1\xb6\x02\x01",
	} {
		wantWrite(t, usual(kind), octets)
	}
}

func TestWriteOfTheGreatestOfEachKind(t *testing.T) {
	news := "\x08" + strings.Repeat("\x3f"+leftOctets, 8)
	table := "\x40" + strings.Repeat(leftOctets, 64)
	name := "\x14zzzzzzzzzzzzzzzzzzzz"
	for kind, octets := range map[int]string{
		api.PingM:   "\x01\x3f\x3e" + maxOctets + leftOctets + news,
		api.ReqM:    "\x02\x3f\x3e" + maxOctets + "\x3f" + news,
		api.AckM:    "\x03\x3f\x3e" + maxOctets + "\x3f" + leftOctets + news,
		api.NackM:   "\x04\x3f\x3e" + maxOctets + "\x3f",
		api.PullM:   "\x05\x3f\x3e" + table,
		api.PushM:   "\x06\x3f\x3e" + table,
		api.AskM:    "\x07\x3f\x3e" + maxOctets + maxOctets + lastOctets,
		api.GrantM:  "\x08\x3f\x3e" + maxOctets + maxOctets + lastOctets,
		api.RefuseM: "\x09\x3f\x3e" + maxOctets + maxOctets,
		api.PollM:   "\x0a\x3f\x3e" + maxOctets + lastOctets,
		api.WorkM:   "\x0b\x3f\x3e" + maxOctets + maxOctets + lastOctets + name + maxOctets,
		api.DoneM:   "\x0c\x3f\x3e" + name + maxOctets + "\x01",
	} {
		wantWrite(t, most(kind), octets)
	}
}

func TestWriteOfEachKnow(t *testing.T) {
	for state := range 4 {
		o := string([]byte{byte(state)})
		wantWrite(t, api.Msg{Kind: api.PingM, To: 1, K: known(300, state)}, "\x01\x00\x01\x00\xac\x02"+o+"\x00")
		wantWrite(t, api.Msg{Kind: api.PingM, To: 1, News: []api.News{told(9, known(300, state))}}, "\x01\x00\x01\x00\x00\x00\x01\x09\xac\x02"+o)
		wantWrite(t, api.Msg{Kind: api.PullM, To: 1, Table: []api.Know{known(300, state)}}, "\x05\x00\x01\x01\xac\x02"+o)
	}
}

func TestWriteOfGood(t *testing.T) {
	wantWrite(t, api.Msg{Kind: api.DoneM, From: 2, Task: "a", Token: 7, Good: true}, "\x0c\x02\x00\x01a\x07\x01")
	wantWrite(t, api.Msg{Kind: api.DoneM, From: 2, Task: "a", Token: 7}, "\x0c\x02\x00\x01a\x07\x00")
}

func TestWriteOfListsThatAreNoneAndThatAreEmpty(t *testing.T) {
	for _, m := range some() {
		want, _ := Write(m)
		for _, news := range [][]api.News{nil, {}} {
			for _, table := range [][]api.Know{nil, {}} {
				o := clone(m)
				if len(o.News) == 0 {
					o.News = news
				}
				if len(o.Table) == 0 {
					o.Table = table
				}
				if s, e := Write(o); s != want || e != api.OK {
					t.Errorf("Write(%v): %x, %d; want %x", o, s, e, want)
				}
			}
		}
	}
}

func TestWriteOfWhatMayNotBe(t *testing.T) {
	for _, m := range []api.Msg{
		{}, {Kind: 13, To: 1}, {Kind: -1, To: 1}, {Kind: api.NackM}, {Kind: api.NackM, From: 5, To: 5}, {Kind: api.NackM, To: 64}, {Kind: api.NackM, From: -1},
		{Kind: api.NackM, To: 1, Who: 64}, {Kind: api.NackM, To: 1, Who: -1}, {Kind: api.NackM, To: 1, Token: 1},
		{Kind: api.PingM, To: 1, K: known(0, 4)}, {Kind: api.PingM, To: 1, K: known(0, -1)}, {Kind: api.PingM, To: 1, Who: 1},
		{Kind: api.PingM, To: 1, News: make([]api.News, 9)}, {Kind: api.PingM, To: 1, News: []api.News{told(64, known(0, 0))}}, {Kind: api.PingM, To: 1, News: []api.News{told(0, known(0, 4))}},
		{Kind: api.PullM, To: 1}, {Kind: api.PushM, To: 1}, {Kind: api.PullM, To: 1, Table: make([]api.Know, 65)}, {Kind: api.PushM, To: 1, Table: []api.Know{known(0, 4)}},
		{Kind: api.AskM, To: 1, Asked: -1}, {Kind: api.GrantM, To: 1, Asked: last + 1}, {Kind: api.RefuseM, To: 1, Asked: 1}, {Kind: api.PollM, To: 1, Epoch: 1},
		{Kind: api.WorkM, To: 1}, {Kind: api.WorkM, To: 1, Task: strings.Repeat("a", 21)}, {Kind: api.WorkM, To: 1, Task: strings.Repeat("a", 201)}, {Kind: api.WorkM, To: 1, Task: "a", Good: true},
		{Kind: api.DoneM, To: 1}, {Kind: api.DoneM, To: 1, Task: "A"}, {Kind: api.DoneM, To: 1, Task: "a", Epoch: 1},
	} {
		wantMayNot(t, m)
	}
}

// Of the same message there is one text, and of others another one.
func TestWriteTellsMessagesApart(t *testing.T) {
	texts := map[string]api.Msg{}
	put := func(m api.Msg) {
		s, e := Write(m)
		if e != api.OK {
			return
		}
		if o, there := texts[s]; there && !equal(o, m) {
			t.Errorf("Write of %v and %v: %x", o, m, s)
		}
		texts[s] = m
	}
	l := values()
	for kind := firstKind; kind <= lastKind; kind++ {
		for _, m := range []api.Msg{least(kind), usual(kind), most(kind)} {
			for _, v := range l {
				if v.may && slices.Contains(has[kind], v.part) {
					put(v.with(m))
				}
			}
		}
	}
}
