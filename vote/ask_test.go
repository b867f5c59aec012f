package vote

import (
	"math/rand"
	"testing"

	"tattle/api"
)

// P17.3: Ask

// slowAsk takes the chapter's words one by one, and calls no layer below.
func slowAsk(term int64, v api.Vote, from int, epoch uint64, now int64) (api.Vote, bool) {
	if now < v.Wait {
		return v, false
	}
	if epoch == 0 {
		return v, false
	}
	if epoch < v.Epoch {
		return v, false
	}
	if v.To >= 0 && v.To != from {
		if epoch == v.Epoch {
			return v, false
		}
		if now < v.Until {
			return v, false
		}
	}
	return api.Vote{Epoch: epoch, To: from, Until: now + term, Wait: v.Wait}, true
}

// wantAsk fails if Ask answers otherwise.
func wantAsk(t *testing.T, x api.Terms, v api.Vote, from int, epoch uint64, now int64, want api.Vote, yes bool, e api.Errno) {
	t.Helper()
	if y, granted, ye := Ask(x, v, from, epoch, now); y != want || granted != yes || ye != e {
		t.Errorf("Ask(%v, %v, %d, %d, %d): %v, %v, %d", x, v, from, epoch, now, y, granted, ye)
	}
}

// wantGranted fails if it is not granted, or otherwise.
func wantGranted(t *testing.T, v api.Vote, from int, epoch uint64, now int64) {
	t.Helper()
	wantAsk(t, ten, v, from, epoch, now, api.Vote{Epoch: epoch, To: from, Until: now + 10, Wait: v.Wait}, true, api.OK)
}

// wantDenied fails if it is granted, or the vote is not as it was.
func wantDenied(t *testing.T, v api.Vote, from int, epoch uint64, now int64) {
	t.Helper()
	wantAsk(t, ten, v, from, epoch, now, v, false, api.OK)
}

// wantRefused fails if it is not refused as what may not be, or the vote is not as it was.
func wantRefused(t *testing.T, x api.Terms, v api.Vote, from int, epoch uint64, now int64) {
	t.Helper()
	wantAsk(t, x, v, from, epoch, now, v, false, api.ErrArg)
}

func TestExamples(t *testing.T) {
	v, yes, e := Ask(ten, New(), 2, 1, 5)
	if v != (api.Vote{Epoch: 1, To: 2, Until: 15}) || !yes || e != api.OK {
		t.Errorf("example 1: %v, %v, %d", v, yes, e)
	}
	wantDenied(t, v, 3, 2, 14)
	wantGranted(t, v, 3, 2, 15)
	v, e = Restart(ten, 1, 2, 0)
	if v != (api.Vote{Epoch: 1, To: 2, Wait: 10}) || e != api.OK {
		t.Errorf("example 3: %v, %d", v, e)
	}
	for _, from := range []int{0, 2, 63} {
		for _, epoch := range epochs {
			wantDenied(t, v, from, epoch, 9)
		}
	}
	wantGranted(t, v, 2, 1, 10)
}

func TestAskAboutWait(t *testing.T) {
	for _, to := range []int{-1, 2, 3} {
		v := api.Vote{Epoch: 4, To: to, Until: 0, Wait: 30}
		for _, epoch := range []uint64{0, 3, 4, 5, top} {
			for _, now := range []int64{0, 1, 28, 29} {
				wantDenied(t, v, 2, epoch, now)
			}
		}
		for _, now := range []int64{30, 31, 1000, farthest} {
			wantGranted(t, v, 2, 5, now)
			wantGranted(t, v, 2, top, now)
			wantDenied(t, v, 2, 3, now)
			wantDenied(t, v, 2, 0, now)
			if to == 3 {
				wantDenied(t, v, 2, 4, now)
			} else {
				wantGranted(t, v, 2, 4, now)
			}
		}
	}
	// Behind a clock's last tick: it never comes.
	wantDenied(t, api.Vote{To: -1, Wait: farthest + 1}, 2, 1, farthest)
	wantDenied(t, api.Vote{To: -1, Wait: 2 * farthest}, 2, 1, farthest)
	wantGranted(t, api.Vote{To: -1, Wait: farthest}, 2, 1, farthest)
}

func TestAskAboutUntil(t *testing.T) {
	v := api.Vote{Epoch: 4, To: 3, Until: 30}
	for _, now := range []int64{0, 1, 28, 29} {
		wantDenied(t, v, 2, 5, now)
		wantDenied(t, v, 2, top, now)
		wantGranted(t, v, 3, 5, now)
		wantGranted(t, v, 3, top, now)
	}
	for _, now := range []int64{30, 31, 1000, farthest} {
		wantGranted(t, v, 2, 5, now)
		wantGranted(t, v, 0, top, now)
		wantGranted(t, v, 3, 5, now)
	}
	for _, now := range []int64{0, 29, 30, 31, farthest} {
		wantDenied(t, v, 2, 4, now)
		wantDenied(t, v, 2, 3, now)
		wantDenied(t, v, 2, 0, now)
		wantGranted(t, v, 3, 4, now)
		wantDenied(t, v, 3, 3, now)
		wantDenied(t, v, 3, 0, now)
	}
	wantDenied(t, api.Vote{Epoch: 4, To: 3, Until: 2 * farthest}, 2, 5, farthest)
	wantGranted(t, api.Vote{Epoch: 4, To: 3, Until: 2 * farthest}, 3, 5, farthest)
}

func TestAskWhereItIsToNobody(t *testing.T) {
	v := api.Vote{Epoch: 4, To: -1, Until: 30}
	for _, now := range []int64{0, 29, 30, 31} {
		for _, from := range []int{0, 1, 63} {
			wantGranted(t, v, from, 4, now)
			wantGranted(t, v, from, 5, now)
			wantDenied(t, v, from, 3, now)
			wantDenied(t, v, from, 0, now)
		}
	}
}

func TestAskOfNoEpoch(t *testing.T) {
	for _, to := range []int{-1, 2, 3} {
		for _, until := range []int64{0, 20} {
			v := api.Vote{To: to, Until: until}
			wantDenied(t, v, 2, 0, 15)
			wantDenied(t, v, 2, 0, 25)
			wantGranted(t, v, 2, 1, 25)
		}
	}
}

func TestAskLongerThanBefore(t *testing.T) {
	// What is granted again lasts from now on, also where it lasted longer by other terms.
	v := api.Vote{Epoch: 4, To: 3, Until: 1000, Wait: 7}
	wantGranted(t, v, 3, 4, 20)
	wantGranted(t, v, 3, 9, 20)
}

func TestAskOfEachKind(t *testing.T) {
	terms := []api.Terms{ten, {Term: 1, R: 1}, {Term: 1000000, D: 5, R: 9}}
	for _, x := range terms {
		for _, v := range goodVotes() {
			for _, from := range []int{0, 2, 5, 63} {
				for _, epoch := range epochs {
					for _, now := range goodNow {
						want, yes := slowAsk(x.Term, v, from, epoch, now)
						wantAsk(t, x, v, from, epoch, now, want, yes, api.OK)
					}
				}
			}
		}
	}
}

func TestAskOfSmallNumbers(t *testing.T) {
	x := api.Terms{Term: 3, D: 1, R: 2}
	met := map[bool]int{}
	for to := -1; to < 3; to++ {
		for until := range int64(4) {
			for wait := range int64(4) {
				for was := range uint64(4) {
					v := api.Vote{Epoch: was, To: to, Until: until, Wait: wait}
					for from := range 3 {
						for epoch := range uint64(5) {
							for now := range int64(5) {
								want, yes := slowAsk(3, v, from, epoch, now)
								wantAsk(t, x, v, from, epoch, now, want, yes, api.OK)
								met[yes]++
							}
						}
					}
				}
			}
		}
	}
	if met[true] < 1000 || met[false] < 1000 {
		t.Errorf("met: %v", met)
	}
}

func TestAskByEachTerms(t *testing.T) {
	for _, x := range goodTerms() {
		for _, now := range goodNow {
			wantAsk(t, x.t, New(), 63, top, now, api.Vote{Epoch: top, To: 63, Until: now + x.t.Term}, true, api.OK)
		}
	}
}

func TestAskOfWhatMayNotBe(t *testing.T) {
	good := api.Vote{Epoch: 4, To: 3, Until: 30, Wait: 2}
	for _, epoch := range []uint64{0, 3, 4, 5, top} {
		for _, x := range badTerms() {
			for _, v := range []api.Vote{good, New()} {
				wantRefused(t, x, v, 3, epoch, 5)
				wantRefused(t, x, v, 3, epoch, 1)
				wantRefused(t, x, v, 64, epoch, 5)
				wantRefused(t, x, v, 3, epoch, -1)
			}
			wantRefused(t, x, api.Vote{To: 64}, 3, epoch, 5)
			wantRefused(t, x, api.Vote{Until: -1}, -1, epoch, farthest+1)
		}
		for _, v := range badVotes() {
			for _, from := range []int{0, 3, 63, -1, 64} {
				for _, now := range []int64{0, 5, farthest, -1, farthest + 1} {
					wantRefused(t, ten, v, from, epoch, now)
				}
			}
		}
		for _, from := range badNodes {
			for _, now := range []int64{0, 1, 5, 40, farthest, -1, farthest + 1} {
				wantRefused(t, ten, good, from, epoch, now)
				wantRefused(t, ten, New(), from, epoch, now)
				wantRefused(t, ten, api.Vote{Epoch: 4, To: from}, from, epoch, now)
			}
		}
		for _, now := range badNow {
			for _, from := range []int{0, 3, 63} {
				wantRefused(t, ten, good, from, epoch, now)
				wantRefused(t, ten, New(), from, epoch, now)
			}
		}
	}
}

func TestAskAtDraws(t *testing.T) {
	r := rand.New(rand.NewSource(seed))
	met := map[api.Errno]int{}
	good, bad := goodVotes(), badVotes()
	terms, badT := goodTerms(), badTerms()
	for range 20000 {
		x := terms[r.Intn(len(terms))].t
		v := good[r.Intn(len(good))]
		from, epoch, now := r.Intn(64), epochs[r.Intn(len(epochs))], goodNow[r.Intn(len(goodNow))]
		e := api.OK
		for range r.Intn(3) {
			switch e = api.ErrArg; r.Intn(4) {
			case 0:
				x = badT[r.Intn(len(badT))]
			case 1:
				v = bad[r.Intn(len(bad))]
			case 2:
				from = badNodes[r.Intn(len(badNodes))]
			case 3:
				now = badNow[r.Intn(len(badNow))]
			}
		}
		met[e]++
		if e != api.OK {
			wantRefused(t, x, v, from, epoch, now)
			continue
		}
		want, yes := slowAsk(x.Term, v, from, epoch, now)
		wantAsk(t, x, v, from, epoch, now, want, yes, api.OK)
	}
	if met[api.OK] < 1000 || met[api.ErrArg] < 1000 {
		t.Errorf("drawn: %v", met)
	}
}
