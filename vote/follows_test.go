package vote

import (
	"math/rand"
	"testing"

	"tattle/api"
)

// P17.4: what follows

// past is all that a vote has granted so far, as one looks on who remembers it all.
type past struct {
	term   int64
	owners map[uint64]int // to whom each epoch was granted
	to     int            // the last one to whom it was granted
	at     int64          // when, by this life's clock
	again  int64          // when this life began; -1, if it is the first one
	epoch  uint64
}

// wantAllowed fails if it was granted though it must not be.
func (p *past) wantAllowed(t *testing.T, from int, epoch uint64, now int64) {
	t.Helper()
	if epoch < p.epoch {
		t.Errorf("epoch %d granted behind %d", epoch, p.epoch)
	}
	if owner, ok := p.owners[epoch]; ok && owner != from {
		t.Errorf("epoch %d granted to %d and %d", epoch, owner, from)
	}
	if p.at >= 0 && p.to != from && now < p.at+p.term {
		t.Errorf("granted to %d at %d, and at %d to %d", p.to, p.at, now, from)
	}
	if p.again >= 0 && now < p.again+p.term {
		t.Errorf("granted at %d, behind a restart at %d", now, p.again)
	}
	p.owners[epoch], p.to, p.at, p.epoch = from, from, now, epoch
}

// play is many requests, one after the other, with restarts between; how many were granted, and how many not.
func play(t *testing.T, r *rand.Rand, x api.Terms, steps int) (int, int) {
	p := &past{term: x.Term, owners: map[uint64]int{}, to: -1, at: -1, again: -1}
	v, now, yes, no := New(), int64(0), 0, 0
	for range steps {
		was := v
		switch r.Intn(12) {
		case 0:
			now = int64(r.Intn(5))
			again, e := Restart(x, v.Epoch, v.To, now)
			if e != api.OK {
				t.Fatalf("Restart: %d", e)
			}
			v, p.at, p.again = again, -1, now
		case 1, 2:
			now += r.Int63n(2 * x.Term)
		case 3, 4, 5:
			now++
		default:
			from, epoch := r.Intn(4), v.Epoch+uint64(r.Intn(4))-min(1, v.Epoch)
			next, granted, e := Ask(x, v, from, epoch, now)
			if e != api.OK || !granted && next != v {
				t.Fatalf("Ask: %v, %v, %d", next, granted, e)
			}
			if granted {
				p.wantAllowed(t, from, epoch, now)
				yes++
			} else {
				no++
			}
			v = next
		}
		if v.Epoch < was.Epoch {
			t.Errorf("the epoch fell: %v, %v", was, v)
		}
		if e := Check(v); e != api.OK {
			t.Errorf("Check(%v): %d", v, e)
		}
	}
	return yes, no
}

func TestWhatFollows(t *testing.T) {
	r := rand.New(rand.NewSource(seed))
	for _, x := range []api.Terms{ten, {Term: 1, R: 1}, {Term: 2, D: 1, R: 1}, {Term: 3, R: 9}, {Term: 1000, D: 1, R: 9}, {Term: 1000000, D: 5, R: 9}} {
		yes, no := 0, 0
		for range 100 {
			y, n := play(t, r, x, 200)
			yes, no = yes+y, no+n
		}
		if yes < 500 || no < 500 {
			t.Errorf("%v: granted %d, and not %d", x, yes, no)
		}
	}
}

func TestNothingIsGrantedBehindARestartUntilTheTermIsOver(t *testing.T) {
	for _, x := range []api.Terms{ten, {Term: 1, R: 1}, {Term: 30, D: 5, R: 9}} {
		for to := -1; to < 4; to++ {
			for _, began := range []int64{0, 3, 100} {
				v, _ := Restart(x, 6, to, began)
				for now := range began + 2*x.Term {
					for from := range 4 {
						for epoch := uint64(0); epoch < 10; epoch++ {
							want := now >= began+x.Term && epoch >= 6 && (epoch > 6 || to == -1 || to == from)
							if _, yes, e := Ask(x, v, from, epoch, now); yes != want || e != api.OK {
								t.Errorf("Ask(%v, %v, %d, %d, %d): %v, %d", x, v, from, epoch, now, yes, e)
							}
						}
					}
				}
			}
		}
	}
}

func TestNothingIsGrantedToAnotherUntilTheTermIsOver(t *testing.T) {
	for _, x := range []api.Terms{ten, {Term: 1, R: 1}, {Term: 30, D: 5, R: 9}} {
		for at := range int64(4) {
			v, yes, e := Ask(x, New(), 2, 6, at)
			if !yes || e != api.OK {
				t.Fatalf("Ask: %v, %d", yes, e)
			}
			for now := range at + 2*x.Term {
				for from := range 4 {
					for epoch := uint64(0); epoch < 10; epoch++ {
						want := epoch >= 6 && (from == 2 || epoch > 6 && now >= at+x.Term)
						if _, yes, e := Ask(x, v, from, epoch, now); yes != want || e != api.OK {
							t.Errorf("Ask(%v, %v, %d, %d, %d): %v, %d", x, v, from, epoch, now, yes, e)
						}
					}
				}
			}
		}
	}
}
