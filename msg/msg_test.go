package msg

import (
	"encoding/binary"
	"hash/crc32"
	"math"
	"math/rand"
	"reflect"
	"slices"
	"strings"
	"testing"

	"tattle/api"
)

// The tests' draws are from this seed, so that a failure comes again.
const seed = 1

// greatest is the greatest number that there is.
const greatest = math.MaxUint64

// last is the last tick that there is.
const last = int64(1) << 40

// firstKind and lastKind are the ends of what kinds there are.
const (
	firstKind = 1
	lastKind  = 12
)

// has is the parts of each kind, in order, as the chapter tells them.
var has = map[int][]string{
	1:  {"Seq", "K", "News"},
	2:  {"Seq", "Who", "News"},
	3:  {"Seq", "Who", "K", "News"},
	4:  {"Seq", "Who"},
	5:  {"Table"},
	6:  {"Table"},
	7:  {"Epoch", "Boot", "Asked"},
	8:  {"Epoch", "Boot", "Asked"},
	9:  {"Epoch", "Boot"},
	10: {"Boot", "Asked"},
	11: {"Epoch", "Boot", "Asked", "Task", "Token"},
	12: {"Task", "Token", "Good"},
}

// allParts are the parts that messages of some kind have.
var allParts = []string{"Seq", "Who", "K", "News", "Table", "Epoch", "Boot", "Asked", "Task", "Token", "Good"}

// Numbers at either end of what may be, and between; and such as may not be.
var (
	edgeNumbers = []uint64{0, 1, 2, 127, 128, 300, 1<<14 - 1, 1 << 14, 1<<32 - 1, 1 << 32, 1<<63 - 1, 1 << 63, greatest - 1, greatest}
	edgeNodes   = []int{0, 1, 2, 31, 32, 62, 63}
	badNodes    = []int{-1, 64, 65, -2, -63, -64, 127, 128, 256, 319, 1 << 31, -1 << 31, 1 << 32, 1<<32 + 5, -1 << 32, -1<<32 + 5, math.MinInt, math.MinInt + 1, math.MinInt + 5, math.MaxInt - 1, math.MaxInt}
	badStates   = []int{-1, 4, 5, -2, 127, 128, 255, 256, 257, -256, 1 << 31, 1 << 32, 1<<32 + 1, -1 << 32, math.MinInt, math.MinInt + 1, math.MaxInt}
	edgeTicks   = []int64{0, 1, 127, 128, 1<<31 - 1, 1 << 32, last - 1, last}
	badTicks    = []int64{-1, last + 1, -2, last + 2, -last, 2 * last, -1 << 31, -1 << 32, 1 << 62, math.MinInt64, math.MinInt64 + 1, math.MaxInt64 - 1, math.MaxInt64}
	badKinds    = []int{0, 13, -1, 14, -2, -12, 127, 128, 129, 256, 257, 260, 1 << 31, -1 << 31, 1 << 32, 1<<32 + 4, -1 << 32, -1<<32 + 4, math.MinInt, math.MinInt + 4, math.MaxInt - 1, math.MaxInt}
)

// goodNames and badNames are tasks' names, and what is none.
var (
	goodNames = []string{"a", "z", "0", "9", "-", "-9z", "job-1", "--", "a-", "0a", strings.Repeat("z", 19), strings.Repeat("z", 20), strings.Repeat("-", 20), "abcdefghij0123456789"}
	badNames  = []string{"", strings.Repeat("a", 21), strings.Repeat("a", 22), strings.Repeat("-", 200), strings.Repeat("a", 201), strings.Repeat("a", 5000), "A", "a.b", "job 1", "job_1", "a\x00", "\x00", "\xff", "é", "aé", "Job", strings.Repeat("a", 19) + "A", "a\n", "/", ":", "`", "{", ",", "."}
)

func known(inc uint64, state int) api.Know { return api.Know{Inc: inc, State: state} }

func told(who int, k api.Know) api.News { return api.News{Who: who, K: k} }

// someNews are n news that differ.
func someNews(n int) []api.News {
	var l []api.News
	for i := range n {
		l = append(l, told((i*7+5)%64, known(uint64(i)*100, i%4)))
	}
	return l
}

// someTable is a table of n nodes of which different things are known.
func someTable(n int) []api.Know {
	var l []api.Know
	for i := range n {
		l = append(l, known(uint64(i)*100, (i+1)%4))
	}
	return l
}

// but is a list with something else at a place.
func but[T any](l []T, at int, x T) []T {
	then := slices.Clone(l)
	then[at] = x
	return then
}

// clone is a message that has nothing in common with another one.
func clone(m api.Msg) api.Msg {
	m.News, m.Table = slices.Clone(m.News), slices.Clone(m.Table)
	return m
}

// equal: the same messages, part by part?
func equal(a, b api.Msg) bool {
	if !slices.Equal(a.News, b.News) || !slices.Equal(a.Table, b.Table) {
		return false
	}
	a.News, a.Table, b.News, b.Table = nil, nil, nil, nil
	return reflect.DeepEqual(a, b)
}

// value is something that a part may be, or may not be, and is put into a message.
type value struct {
	part string
	may  bool
	put  func(m *api.Msg)
}

// with is a message of which a part has another value.
func (v value) with(m api.Msg) api.Msg {
	m = clone(m)
	v.put(&m)
	return m
}

// zero: is the part that it is of zero then?
func (v value) zero() bool { return equal(v.with(api.Msg{}), api.Msg{}) }

func seqOf(n uint64) value   { return value{"Seq", true, func(m *api.Msg) { m.Seq = n }} }
func epochOf(n uint64) value { return value{"Epoch", true, func(m *api.Msg) { m.Epoch = n }} }
func bootOf(n uint64) value  { return value{"Boot", true, func(m *api.Msg) { m.Boot = n }} }
func tokenOf(n uint64) value { return value{"Token", true, func(m *api.Msg) { m.Token = n }} }
func goodOf(ok bool) value   { return value{"Good", true, func(m *api.Msg) { m.Good = ok }} }

func whoOf(n int, may bool) value { return value{"Who", may, func(m *api.Msg) { m.Who = n }} }

func knowOf(k api.Know, may bool) value { return value{"K", may, func(m *api.Msg) { m.K = k }} }

func askedOf(n int64, may bool) value { return value{"Asked", may, func(m *api.Msg) { m.Asked = n }} }

func taskOf(s string, may bool) value { return value{"Task", may, func(m *api.Msg) { m.Task = s }} }

func newsOf(l []api.News, may bool) value {
	return value{"News", may, func(m *api.Msg) { m.News = slices.Clone(l) }}
}

func tableOf(l []api.Know, may bool) value {
	return value{"Table", may, func(m *api.Msg) { m.Table = slices.Clone(l) }}
}

// numberValues are those of Seq, Epoch, Boot, Token and Good, which may always be.
func numberValues() []value {
	l := []value{goodOf(false), goodOf(true)}
	for _, n := range edgeNumbers {
		l = append(l, seqOf(n), epochOf(n), bootOf(n), tokenOf(n))
	}
	return l
}

// smallValues are those of Who, Asked and Task.
func smallValues() []value {
	var l []value
	for _, n := range edgeNodes {
		l = append(l, whoOf(n, true))
	}
	for _, n := range badNodes {
		l = append(l, whoOf(n, false))
	}
	for _, n := range edgeTicks {
		l = append(l, askedOf(n, true))
	}
	for _, n := range badTicks {
		l = append(l, askedOf(n, false))
	}
	for _, s := range goodNames {
		l = append(l, taskOf(s, true))
	}
	for _, s := range badNames {
		l = append(l, taskOf(s, false))
	}
	return l
}

// knowValues are those of K.
func knowValues() []value {
	var l []value
	for _, inc := range edgeNumbers {
		for state := range 4 {
			l = append(l, knowOf(known(inc, state), true))
		}
		for _, state := range badStates {
			l = append(l, knowOf(known(inc, state), false))
		}
	}
	return l
}

// newsValues are those of News: as many as may be, too many, and one at each place that may be, or may not be.
func newsValues() []value {
	var l []value
	l = append(l, newsOf(nil, true), newsOf([]api.News{}, true), newsOf(make([]api.News, 1), true), newsOf(make([]api.News, 8), true))
	for n := 1; n <= 8; n++ {
		l = append(l, newsOf(someNews(n), true), newsOf(slices.Repeat([]api.News{told(63, known(greatest, 3))}, n), true))
	}
	for _, n := range []int{9, 10, 16, 64, 65, 256, 257, 1000} {
		l = append(l, newsOf(make([]api.News, n), false), newsOf(someNews(n), false))
	}
	for _, n := range []int{1, 2, 8} {
		for at := range n {
			for _, who := range edgeNodes {
				l = append(l, newsOf(but(someNews(n), at, told(who, known(9, 1))), true))
			}
			for state := range 4 {
				l = append(l, newsOf(but(someNews(n), at, told(4, known(greatest, state))), true))
			}
			for _, who := range badNodes {
				l = append(l, newsOf(but(someNews(n), at, told(who, known(9, 1))), false))
			}
			for _, state := range badStates {
				l = append(l, newsOf(but(someNews(n), at, told(4, known(9, state))), false))
			}
		}
	}
	return l
}

// tableValues are those of Table: of as many nodes as may be, of none, of too many, and with one at each place that may be, or may not be.
func tableValues() []value {
	l := []value{tableOf(nil, false), tableOf([]api.Know{}, false)}
	for n := 1; n <= 64; n++ {
		l = append(l, tableOf(someTable(n), true))
	}
	l = append(l, tableOf(make([]api.Know, 1), true), tableOf(slices.Repeat([]api.Know{known(greatest, 3)}, 64), true))
	for _, n := range []int{65, 66, 127, 128, 256, 257, 1000} {
		l = append(l, tableOf(make([]api.Know, n), false), tableOf(someTable(n), false))
	}
	for _, n := range []int{1, 2, 3} {
		for at := range n {
			for state := range 4 {
				l = append(l, tableOf(but(someTable(n), at, known(greatest, state)), true))
			}
			for _, state := range badStates {
				l = append(l, tableOf(but(someTable(n), at, known(9, state)), false))
			}
		}
	}
	for at := range 64 {
		l = append(l, tableOf(but(someTable(64), at, known(greatest, at%4)), true))
		l = append(l, tableOf(but(someTable(64), at, known(9, badStates[at%len(badStates)])), false))
		l = append(l, tableOf(but(someTable(64), at, known(9, 4)), false), tableOf(but(someTable(64), at, known(9, -1)), false))
	}
	return l
}

// values are those of each part.
func values() []value {
	return slices.Concat(numberValues(), smallValues(), knowValues(), newsValues(), tableValues())
}

// least is a message of a kind with nothing but what must stand.
func least(kind int) api.Msg {
	m := api.Msg{Kind: kind, To: 1}
	for _, part := range has[kind] {
		switch part {
		case "Table":
			m.Table = []api.Know{{}}
		case "Task":
			m.Task = "-"
		}
	}
	return m
}

// filled is a message of a kind, from one node to another one, whose parts are as those of another message.
func filled(kind, from, to int, as api.Msg) api.Msg {
	m := api.Msg{Kind: kind, From: from, To: to}
	for _, part := range has[kind] {
		switch part {
		case "Seq":
			m.Seq = as.Seq
		case "Who":
			m.Who = as.Who
		case "K":
			m.K = as.K
		case "News":
			m.News = slices.Clone(as.News)
		case "Table":
			m.Table = slices.Clone(as.Table)
		case "Epoch":
			m.Epoch = as.Epoch
		case "Boot":
			m.Boot = as.Boot
		case "Asked":
			m.Asked = as.Asked
		case "Task":
			m.Task = as.Task
		case "Token":
			m.Token = as.Token
		case "Good":
			m.Good = as.Good
		}
	}
	return m
}

// usual is a message of a kind in which each of its parts is neither zero nor the greatest, and no two numbers are the same.
func usual(kind int) api.Msg {
	return filled(kind, 20, 21, api.Msg{
		Seq: 300, Who: 3, K: known(301, 1), News: []api.News{told(5, known(302, 2)), told(6, known(303, 3))},
		Table: []api.Know{known(304, 1), known(305, 0), known(306, 3)},
		Epoch: 307, Boot: 308, Asked: 309, Task: "job-1", Token: 310, Good: true,
	})
}

// most is the greatest message of a kind.
func most(kind int) api.Msg {
	return filled(kind, 63, 62, api.Msg{
		Seq: greatest, Who: 63, K: known(greatest, 3), News: slices.Repeat([]api.News{told(63, known(greatest, 3))}, 8),
		Table: slices.Repeat([]api.Know{known(greatest, 3)}, 64),
		Epoch: greatest, Boot: greatest, Asked: last, Task: strings.Repeat("z", 20), Token: greatest, Good: true,
	})
}

// some are messages of each kind: the least, a usual one, and the greatest.
func some() []api.Msg {
	var l []api.Msg
	for kind := firstKind; kind <= lastKind; kind++ {
		l = append(l, least(kind), usual(kind), most(kind))
	}
	return l
}

// anyOf is one of a list.
func anyOf[T any](r *rand.Rand, l []T) T { return l[r.Intn(len(l))] }

// drawnNumber is a number of any length.
func drawnNumber(r *rand.Rand) uint64 { return r.Uint64() >> r.Intn(64) }

func drawnKnow(r *rand.Rand) api.Know { return known(drawnNumber(r), r.Intn(4)) }

func drawnName(r *rand.Rand) string {
	b := make([]byte, 1+r.Intn(20))
	for i := range b {
		b[i] = "abcdefghijklmnopqrstuvwxyz0123456789-"[r.Intn(37)]
	}
	return string(b)
}

// drawn is a message of a kind that may be.
func drawn(r *rand.Rand, kind int) api.Msg {
	as := api.Msg{
		Seq: drawnNumber(r), Who: r.Intn(64), K: drawnKnow(r),
		Epoch: drawnNumber(r), Boot: drawnNumber(r), Asked: r.Int63n(last+1) >> r.Intn(41),
		Task: drawnName(r), Token: drawnNumber(r), Good: r.Intn(2) == 1,
	}
	for range r.Intn(9) {
		as.News = append(as.News, told(r.Intn(64), drawnKnow(r)))
	}
	for range 1 + r.Intn(64) {
		as.Table = append(as.Table, drawnKnow(r))
	}
	l := r.Perm(64)
	return filled(kind, l[0], l[1], as)
}

// slowName goes octet by octet.
func slowName(s string) bool {
	for i := 0; i < len(s); i++ {
		if !strings.Contains("abcdefghijklmnopqrstuvwxyz0123456789-", s[i:i+1]) {
			return false
		}
	}
	return len(s) > 0 && len(s) < 21
}

func slowKnow(k api.Know) bool { return k.State >= 0 && k.State <= 3 }

func slowNews(n api.News) bool { return n.Who >= 0 && n.Who <= 63 && slowKnow(n.K) }

// slowPart: may a part of a message be?
func slowPart(m api.Msg, part string) bool {
	switch part {
	case "Who":
		return m.Who >= 0 && m.Who <= 63
	case "K":
		return slowKnow(m.K)
	case "News":
		return len(m.News) <= 8 && !slices.ContainsFunc(m.News, func(n api.News) bool { return !slowNews(n) })
	case "Table":
		return len(m.Table) > 0 && len(m.Table) <= 64 && !slices.ContainsFunc(m.Table, func(k api.Know) bool { return !slowKnow(k) })
	case "Asked":
		return m.Asked >= 0 && m.Asked <= 1<<40
	case "Task":
		return slowName(m.Task)
	}
	return true
}

// slowMay: may a message be? By what is left of it with its kind's parts alone.
func slowMay(m api.Msg) bool {
	if m.Kind < 1 || m.Kind > 12 || m.From < 0 || m.From > 63 || m.To < 0 || m.To > 63 || m.From == m.To {
		return false
	}
	for _, part := range has[m.Kind] {
		if !slowPart(m, part) {
			return false
		}
	}
	return equal(m, filled(m.Kind, m.From, m.To, m))
}

// num is numbers' octets, by the library.
func num(l ...uint64) string {
	var b []byte
	for _, n := range l {
		b = binary.AppendUvarint(b, n)
	}
	return string(b)
}

func slowKnowOctets(k api.Know) string { return num(k.Inc, uint64(k.State)) }

func slowListOctets(m api.Msg, part string) string {
	if part == "News" {
		s := num(uint64(len(m.News)))
		for _, n := range m.News {
			s += num(uint64(n.Who)) + slowKnowOctets(n.K)
		}
		return s
	}
	s := num(uint64(len(m.Table)))
	for _, k := range m.Table {
		s += slowKnowOctets(k)
	}
	return s
}

// slowPartOctets is the octets of a part of a message.
func slowPartOctets(m api.Msg, part string) string {
	switch part {
	case "Seq":
		return num(m.Seq)
	case "Who":
		return num(uint64(m.Who))
	case "K":
		return slowKnowOctets(m.K)
	case "Epoch":
		return num(m.Epoch)
	case "Boot":
		return num(m.Boot)
	case "Asked":
		return num(uint64(m.Asked))
	case "Task":
		return num(uint64(len(m.Task))) + m.Task
	case "Token":
		return num(m.Token)
	case "Good":
		if m.Good {
			return "\x01"
		}
		return "\x00"
	}
	return slowListOctets(m, part)
}

// pieces is a message's octets: those of Kind, From and To, and of each part.
func pieces(m api.Msg) []string {
	l := []string{num(uint64(m.Kind)), num(uint64(m.From)), num(uint64(m.To))}
	for _, part := range has[m.Kind] {
		l = append(l, slowPartOctets(m, part))
	}
	return l
}

// octetsOf is a message's octets, that are not sealed yet.
func octetsOf(m api.Msg) string { return strings.Join(pieces(m), "") }

// sealed is octets and their sum, by the library.
func sealed(s string) string {
	return string(binary.LittleEndian.AppendUint32([]byte(s), crc32.ChecksumIEEE([]byte(s))))
}

// slowTaking takes octets one by one.
type slowTaking struct {
	s  string
	ok bool
}

func (t *slowTaking) num() uint64 {
	n, w := binary.Uvarint([]byte(t.s))
	if w <= 0 || num(n) != t.s[:w] {
		t.s, t.ok = "", false
		return 0
	}
	t.s = t.s[w:]
	return n
}

// upTo takes a number that is not above another one.
func (t *slowTaking) upTo(most uint64) int {
	n := t.num()
	if n > most {
		t.s, t.ok = "", false
		return 0
	}
	return int(n)
}

func (t *slowTaking) know() api.Know {
	inc := t.num()
	return known(inc, t.upTo(3))
}

func (t *slowTaking) part(m *api.Msg, part string) {
	switch part {
	case "Seq":
		m.Seq = t.num()
	case "Who":
		m.Who = t.upTo(63)
	case "K":
		m.K = t.know()
	case "News":
		for range t.upTo(8) {
			who := t.upTo(63)
			m.News = append(m.News, told(who, t.know()))
		}
	case "Table":
		for range t.upTo(64) {
			m.Table = append(m.Table, t.know())
		}
	case "Epoch":
		m.Epoch = t.num()
	case "Boot":
		m.Boot = t.num()
	case "Asked":
		m.Asked = int64(t.upTo(1 << 40))
	case "Task":
		n := t.upTo(20)
		if n > len(t.s) {
			t.s, t.ok = "", false
			return
		}
		m.Task, t.s = t.s[:n], t.s[n:]
	case "Token":
		m.Token = t.num()
	case "Good":
		m.Good = t.upTo(1) == 1
	}
}

// slowRead is the message that octets are, and whether they are one's.
func slowRead(octets string) (api.Msg, bool) {
	t := slowTaking{octets, true}
	m := api.Msg{Kind: t.upTo(12)}
	m.From = t.upTo(63)
	m.To = t.upTo(63)
	for _, part := range has[m.Kind] {
		t.part(&m, part)
	}
	if !t.ok || t.s != "" || !slowMay(m) {
		return api.Msg{}, false
	}
	return m, true
}

// spoilt is text with the bits of pattern turned from bit on, the lowest of each octet first; false, if one of them is beyond the text.
func spoilt(text string, bit int, pattern uint32) (string, bool) {
	b := []byte(text)
	for i := range 32 {
		if pattern>>i&1 == 0 {
			continue
		}
		if (bit+i)/8 >= len(b) {
			return "", false
		}
		b[(bit+i)/8] ^= 1 << ((bit + i) % 8)
	}
	return string(b), true
}

// wantStays fails if a message that was handed in is not as it was.
func wantStays(t *testing.T, call string, m, was api.Msg) {
	t.Helper()
	if !equal(m, was) {
		t.Errorf("%s changed %v to %v", call, was, m)
	}
}

func wantName(t *testing.T, s string, want bool) {
	t.Helper()
	if x := Name(s); x != want {
		t.Errorf("Name(%.30q), of %d octets: %v", s, len(s), x)
	}
}

// wantMay fails if a message is not one that may be, is not written as the chapter says, or not read as it was.
func wantMay(t *testing.T, m api.Msg) {
	t.Helper()
	was := clone(m)
	if e := Check(m); e != api.OK {
		t.Errorf("Check(%v): %d", m, e)
	}
	s, e := Write(m)
	if want := sealed(octetsOf(m)); s != want || e != api.OK {
		t.Errorf("Write(%v): %x, %d; want %x", m, s, e, want)
	}
	wantStays(t, "Check, or Write,", m, was)
	wantRead(t, s, m)
}

// wantMayNot fails if a message is not refused.
func wantMayNot(t *testing.T, m api.Msg) {
	t.Helper()
	was := clone(m)
	if e := Check(m); e != api.ErrArg {
		t.Errorf("Check(%v): %d", m, e)
	}
	if s, e := Write(m); s != "" || e != api.ErrArg {
		t.Errorf("Write(%v): %x, %d", m, s, e)
	}
	wantStays(t, "Check, or Write,", m, was)
}

// wantMayIf is one of both.
func wantMayIf(t *testing.T, m api.Msg, may bool) {
	t.Helper()
	if may {
		wantMay(t, m)
	} else {
		wantMayNot(t, m)
	}
}

func wantSame(t *testing.T, a, b api.Msg, want bool) {
	t.Helper()
	wasA, wasB := clone(a), clone(b)
	if x := Same(a, b); x != want {
		t.Errorf("Same(%v, %v): %v", a, b, x)
	}
	if x := Same(b, a); x != want {
		t.Errorf("Same(%v, %v): %v", b, a, x)
	}
	wantStays(t, "Same", a, wasA)
	wantStays(t, "Same", b, wasB)
}

func wantWrite(t *testing.T, m api.Msg, octets string) {
	t.Helper()
	if s, e := Write(m); s != sealed(octets) || e != api.OK {
		t.Errorf("Write(%v): %x, %d; want %x", m, s, e, sealed(octets))
	}
}

func wantRead(t *testing.T, s string, want api.Msg) {
	t.Helper()
	if m, e := Read(s); !equal(m, want) || e != api.OK {
		t.Errorf("Read(%x): %v, %d; want %v", s, m, e, want)
	}
}

// wantNone fails if a text is not refused by that error.
func wantNone(t *testing.T, s string, want api.Errno) {
	t.Helper()
	if m, e := Read(s); !equal(m, api.Msg{}) || e != want {
		t.Errorf("Read of %d octets, %.100x: %v, %d; want error %d", len(s), s, m, e, want)
	}
}

// wantNoForm fails if octets, sealed, are a message.
func wantNoForm(t *testing.T, octets string) {
	t.Helper()
	wantNone(t, sealed(octets), api.ErrForm)
}

// wantReadLikeSlow fails if octets, sealed, are not read as the slow one does.
func wantReadLikeSlow(t *testing.T, octets string) {
	t.Helper()
	m, ok := slowRead(octets)
	if !ok {
		wantNoForm(t, octets)
		return
	}
	wantRead(t, sealed(octets), m)
	wantWrite(t, m, octets)
}
