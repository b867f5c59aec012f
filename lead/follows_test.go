package lead

import (
	"math/rand"
	"testing"

	"tattle/api"
	"tattle/clock"
	"tattle/vote"
)

// P18.4: what follows

func TestWithOneGrantMoreItHoldsAsLongOrLonger(t *testing.T) {
	r := rand.New(rand.NewSource(seed))
	longer, begins := 0, 0
	for range 2000 {
		l := all(1+r.Intn(7), -1)
		for range 30 {
			was, held, _ := Until(ten, l)
			next, e := Granted(l, r.Intn(len(l.Asked)), 3, r.Int63n(20))
			until, holds, ue := Until(ten, next)
			if e != api.OK || ue != api.OK || held && !holds || until < was {
				t.Fatalf("until %d, %v: behind one grant more %v, until %d, %v", was, held, next, until, holds)
			}
			for _, now := range []int64{0, was - 1, was, until - 1, until} {
				if Valid(ten, l, now) && !Valid(ten, next, now) || !Due(ten, l, now) && Due(ten, next, now) {
					t.Fatalf("at %d: by one grant more %v became less", now, next)
				}
			}
			if held && until > was {
				longer++
			}
			if !held && holds {
				begins++
			}
			l = next
		}
	}
	if longer < 1000 || begins < 1000 {
		t.Errorf("met: %d times longer, %d times at all", longer, begins)
	}
}

// tally is what has come of a node's beats by some place.
type tally struct {
	ticks, life int
	up          bool
}

// beats are what happens to the nodes' clocks, and the tallies at each place.
type beats struct {
	l     []api.Beat
	rows  [][]tally
	terms api.Terms
}

func newBeats(n int, terms api.Terms) *beats {
	row := make([]tally, n)
	for node := range row {
		row[node].up = true
	}
	return &beats{rows: [][]tally{row}, terms: terms}
}

// add puts a beat behind all others.
func (b *beats) add(node, what int) {
	row := append([]tally{}, b.rows[len(b.rows)-1]...)
	switch what {
	case api.TickB:
		row[node].ticks++
	case api.FallB:
		row[node].up = false
	case api.RiseB:
		row[node].up = true
		row[node].life++
	}
	b.l, b.rows = append(b.l, api.Beat{Node: node, What: what}), append(b.rows, row)
}

// mayTick: are clocks near yet with a tick of that node more? Only to it can they be too far then.
func (b *beats) mayTick(node int) bool {
	last := b.rows[len(b.rows)-1]
	for _, row := range b.rows {
		if !row[node].up || row[node].life != last[node].life {
			continue
		}
		most := last[node].ticks + 1 - row[node].ticks
		for other, now := range last {
			if other == node || !row[other].up || !now.up || row[other].life != now.life {
				continue
			}
			if few := now.ticks - row[other].ticks; most > few+int(b.terms.D)+few/int(b.terms.R) {
				return false
			}
		}
	}
	return true
}

// station is a node that asks others whether it may lead, and is asked.
type station struct {
	up   bool
	life int
	now  int64
	v    api.Vote
	l    api.Lead
}

// packet is a request, or a grant, on its way: in its life the one that asks has asked at that tick.
type packet struct {
	grant    bool
	from, to int
	epoch    uint64
	life     int
	asked    int64
}

// town is nodes that ask one another, what is on its way between them, and what was met.
type town struct {
	t     *testing.T
	r     *rand.Rand
	terms api.Terms
	b     *beats
	all   []station
	out   []packet
	near  bool // ticks come only where clocks are near with them
	far   int  // the first place at which clocks were not near; -1, if they were
	met   tallied
	// broken: did two lead though clocks are near?
	broken bool
}

// tallied is how often something was met.
type tallied struct{ leads, taken, two, falls, late, again, renewed int }

func (m *tallied) add(o tallied) {
	m.leads, m.taken, m.two, m.falls = m.leads+o.leads, m.taken+o.taken, m.two+o.two, m.falls+o.falls
	m.late, m.again, m.renewed = m.late+o.late, m.again+o.again, m.renewed+o.renewed
}

func newTown(t *testing.T, r *rand.Rand, terms api.Terms, n int, near bool) *town {
	w := &town{t: t, r: r, terms: terms, b: newBeats(n, terms), all: make([]station, n), near: near, far: -1}
	for node := range w.all {
		l, e := New(n)
		if e != api.OK {
			t.Fatalf("New(%d): %d", n, e)
		}
		w.all[node] = station{up: true, now: int64(r.Intn(3)), v: vote.New(), l: l}
	}
	return w
}

// tick lets a node's clock go on; where that is too far, another one's does.
func (w *town) tick() {
	first := w.r.Intn(len(w.all))
	for i := range w.all {
		node := (first + i) % len(w.all)
		if !w.all[node].up {
			continue
		}
		stays := w.b.mayTick(node)
		if w.near && !stays {
			continue
		}
		w.b.add(node, api.TickB)
		w.all[node].now++
		if !stays && w.far < 0 {
			w.far = len(w.b.l)
		}
		return
	}
}

// fall lets a node forget all but what it promised; rise lets it begin again with that.
func (w *town) fall(node int) {
	w.b.add(node, api.FallB)
	s := &w.all[node]
	s.up, s.l = false, api.Lead{}
	w.met.falls++
}

func (w *town) rise(node int) {
	w.b.add(node, api.RiseB)
	s := &w.all[node]
	s.up, s.life, s.now = true, s.life+1, int64(w.r.Intn(3))
	s.l, _ = New(len(w.all))
	var e api.Errno
	if s.v, e = vote.Restart(w.terms, s.v.Epoch, s.v.To, s.now); e != api.OK {
		w.t.Fatalf("Restart: %d", e)
	}
}

// ask lets a node ask all, itself first: again for the epoch that it has, or for another one.
func (w *town) ask(node int) {
	s := &w.all[node]
	valid := Valid(w.terms, s.l, s.now)
	if s.l.Epoch == 0 || !valid && w.r.Intn(4) > 0 || w.r.Intn(20) == 0 {
		epoch := max(s.l.Epoch, s.v.Epoch*uint64(w.r.Intn(5)+1)/5) + uint64(1+w.r.Intn(2))
		l, e := Start(s.l, epoch)
		if e != api.OK {
			w.t.Fatalf("Start(%v, %d): %d", s.l, epoch, e)
		}
		s.l = l
	} else if valid {
		w.met.renewed++
	}
	for to := range w.all {
		p := packet{from: node, to: to, epoch: s.l.Epoch, life: s.life, asked: s.now}
		if to == node {
			w.hear(p)
		} else {
			w.out = append(w.out, p)
		}
	}
}

// hear is something that comes to a node: one that is not up hears nothing.
func (w *town) hear(p packet) {
	switch {
	case !w.all[p.to].up:
	case p.grant:
		w.heard(p)
	default:
		w.asked(p)
	}
}

// asked is a request that comes: a grant goes back, to oneself at once.
func (w *town) asked(p packet) {
	s := &w.all[p.to]
	v, yes, e := vote.Ask(w.terms, s.v, p.from, p.epoch, s.now)
	if e != api.OK {
		w.t.Fatalf("Ask: %d", e)
	}
	s.v = v
	back := packet{grant: true, from: p.to, to: p.from, epoch: p.epoch, life: p.life, asked: p.asked}
	if yes && back.from == back.to {
		w.hear(back)
	} else if yes {
		w.out = append(w.out, back)
	}
}

// heard is a grant that comes. What was asked in a life that is over tells nothing of this one's clock.
func (w *town) heard(p packet) {
	s := &w.all[p.to]
	if p.life != s.life {
		w.met.late++
		return
	}
	l, e := Granted(s.l, p.from, p.epoch, p.asked)
	if e != api.OK && (e != api.ErrStale || p.epoch == s.l.Epoch || !equal(l, s.l)) {
		w.t.Fatalf("Granted(%v, %d, %d, %d): %v, %d", s.l, p.from, p.epoch, p.asked, l, e)
	}
	if !Valid(w.terms, s.l, s.now) && Valid(w.terms, l, s.now) {
		w.met.taken++
	}
	s.l = l
}

// deliver lets something come that is on its way, however long already: and it may come again, or be lost.
func (w *town) deliver() {
	if len(w.out) == 0 {
		return
	}
	at := w.r.Intn(len(w.out))
	if w.r.Intn(2) == 0 { // else it is mostly what was said last
		at = len(w.out) - 1 - w.r.Intn(min(len(w.out), len(w.all)))
	}
	p, how := w.out[at], w.r.Intn(10)
	if how < 3 {
		w.met.again++
	} else {
		w.out[at] = w.out[len(w.out)-1]
		w.out = w.out[:len(w.out)-1]
	}
	if how < 9 {
		w.hear(p)
	}
}

// step is one thing that happens.
func (w *town) step() {
	node := w.r.Intn(len(w.all))
	up := w.all[node].up
	switch k := w.r.Intn(100); {
	case k == 0 && up:
		w.fall(node)
	case k < 8 && !up:
		w.rise(node)
	case k < 30:
		w.tick()
	case k < 42 && up:
		if Due(w.terms, w.all[node].l, w.all[node].now) || w.r.Intn(5) == 0 {
			w.ask(node)
		}
	default:
		for range 1 + w.r.Intn(len(w.all)) {
			w.deliver()
			w.look()
		}
	}
}

// look fails if two lead though clocks are near.
func (w *town) look() {
	leaders := 0
	for _, s := range w.all {
		if s.up && Valid(w.terms, s.l, s.now) {
			leaders++
		}
	}
	if leaders > 0 {
		w.met.leads++
	}
	if leaders > 1 {
		w.met.two++
		if w.far < 0 {
			w.broken = true
			w.t.Errorf("%d lead among %v by %v, behind %v", leaders, w.all, w.terms, w.b.l)
		}
	}
}

// run goes on until there are so many beats, and holds what was counted of the clocks against layer 4.
func (w *town) run(count int) tallied {
	for i := 0; len(w.b.l) < count && i < 20*count && !w.broken; i++ {
		w.step()
		w.look()
	}
	far, e := clock.Far(len(w.all), w.b.l, w.terms.D, w.terms.R)
	if want := w.far - 1; e != api.OK || w.far < 0 && far != len(w.b.l) || w.far >= 0 && far != want {
		w.t.Errorf("Far: %d, %d; by the town %d", far, e, w.far)
	}
	return w.met
}

// townTerms are terms of several kinds: also of a hold of 1, and where the whole term may be held.
var townTerms = []api.Terms{ten, {Term: 4, D: 1, R: 2}, {Term: 6, D: 2, R: 1}, {Term: 3, D: 2, R: 5}, {Term: 5, D: 1, R: 40}, {Term: 12, D: 1, R: 3}}

func TestAtMostOneLeads(t *testing.T) {
	r := rand.New(rand.NewSource(seed))
	late := 0
	for n := 1; n <= 7; n++ {
		var met tallied
		for range 300 {
			met.add(newTown(t, r, townTerms[r.Intn(len(townTerms))], n, true).run(150 + r.Intn(50)))
		}
		if met.leads < 10000 || met.taken < 500 || met.renewed < 300 || met.falls < 1000 || n > 1 && met.again < 5000 {
			t.Errorf("of %d nodes was met too little: %+v", n, met)
		}
		late += met.late
	}
	if late < 100 {
		t.Errorf("%d grants came behind the life in which they were asked for", late)
	}
}

func TestAtMostOneLeadsAsLongAsClocksAreNear(t *testing.T) {
	r := rand.New(rand.NewSource(seed))
	var met tallied
	strayed := 0
	for range 300 {
		w := newTown(t, r, townTerms[r.Intn(len(townTerms))], 2+r.Intn(4), false)
		met.add(w.run(150 + r.Intn(50)))
		if w.far >= 0 {
			strayed++
		}
	}
	// Behind that place two may lead: else it would be told by less than the clocks.
	if met.two < 10 || strayed < 200 {
		t.Errorf("%d times two led, %d times clocks were far: %+v", met.two, strayed, met)
	}
}

// handOver lets node 0 lead by a grant of node 1, and have so many ticks, while the others have as many as they may.
func handOver(t *testing.T, terms api.Terms, again bool, ticks int64) *town {
	w := newTown(t, rand.New(rand.NewSource(seed)), terms, 3, true)
	w.all[0].l, _ = Start(w.all[0].l, 1)
	for node := range 2 {
		w.all[0].now, w.all[1].now = 5, 9
		w.hear(packet{to: node, epoch: 1, asked: 5})
	}
	w.hear(packet{grant: true, from: 1, to: 0, epoch: 1, asked: 5})
	if !Valid(terms, w.all[0].l, 5) {
		t.Fatalf("by %v it does not lead: %v", terms, w.all[0])
	}
	if again {
		w.fall(1)
		w.rise(1)
	}
	for done := int64(0); ; done++ {
		for node := 1; node < 3; node++ {
			for w.b.mayTick(node) {
				w.b.add(node, api.TickB)
				w.all[node].now++
			}
		}
		if done == ticks {
			return w
		}
		w.b.add(0, api.TickB)
		w.all[0].now++
	}
}

// TestItIsHandedOverJustInTime: while a node leads, whoever granted that grants nothing else, also behind a restart; by some terms another one is granted it with one tick more.
func TestItIsHandedOverJustInTime(t *testing.T) {
	inTime := 0
	for _, terms := range townTerms {
		hold, e := vote.Hold(terms)
		if e != api.OK {
			t.Fatalf("Hold(%v): %d", terms, e)
		}
		for _, again := range []bool{false, true} {
			for ticks := range hold + 1 {
				w := handOver(t, terms, again, ticks)
				if near, e := clock.Near(3, w.b.l, terms.D, terms.R); !near || e != api.OK {
					t.Fatalf("Near(%v): %v, %d", w.b.l, near, e)
				}
				leads := Valid(terms, w.all[0].l, w.all[0].now)
				_, yes, e := vote.Ask(terms, w.all[1].v, 2, 2, w.all[1].now)
				if leads != (ticks < hold) || leads && yes || e != api.OK {
					t.Errorf("by %v, again %v, behind %d ticks: leads %v, another one is granted it %v, %d", terms, again, ticks, leads, yes, e)
				}
				if yes {
					inTime++
				}
			}
		}
	}
	if inTime < 8 {
		t.Errorf("%d times another one was granted it at once", inTime)
	}
}
