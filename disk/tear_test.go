package disk

import (
	"math"
	"math/rand"
	"testing"

	"tattle/api"
)

// P16.3: Tear; P16.4

// badCuts are below 0.
var badCuts = []int{-1, -2, -10, -64, -255, -256, -1 << 31, -1 << 32, -1<<32 + 5, math.MinInt, math.MinInt + 1}

// farCuts are beyond each text's end.
var farCuts = []int{50, 64, 127, 128, 255, 256, 4096, 4101, 1<<31 - 1, 1 << 31, 1 << 32, 1<<32 + 5, math.MaxInt - 1, math.MaxInt}

func TestTearKnown(t *testing.T) {
	s := api.Saved{Seq: 9, Boot: 1, Inc: 300, Epoch: 2, To: -1}
	a := slowText(api.Saved{Seq: 4, To: 7})
	first := sealed("\x06\x01\x01\xac\x02\x02\x00")
	fifth := sealed("\x06\x05\x01\xac\x02\x02\x00")
	for cut := range 12 {
		n := min(cut, 11)
		wantTear(t, api.Disk{}, s, cut, api.Disk{A: first[:n]}, api.OK)
		wantTear(t, api.Disk{A: "x", B: "y"}, s, cut, api.Disk{A: first[:n], B: "y"}, api.OK)
		wantTear(t, api.Disk{A: a}, s, cut, api.Disk{A: a, B: fifth[:n]}, api.OK)
		wantTear(t, api.Disk{B: a}, s, cut, api.Disk{A: fifth[:n], B: a}, api.OK)
		wantTear(t, api.Disk{A: a, B: first}, s, cut, api.Disk{A: a, B: fifth[:n]}, api.OK)
		wantTear(t, api.Disk{A: first, B: a}, s, cut, api.Disk{A: fifth[:n], B: a}, api.OK)
	}
	for _, cut := range farCuts {
		wantTear(t, api.Disk{}, s, cut, api.Disk{A: first}, api.OK)
		wantTear(t, api.Disk{A: a}, s, cut, api.Disk{A: a, B: fifth}, api.OK)
	}
}

func TestTearOfWhatMayNotBe(t *testing.T) {
	last := slowText(api.Saved{Seq: top})
	good := api.Saved{Boot: 1, To: -1}
	for _, d := range []api.Disk{{}, {A: "x", B: "y"}, {A: slowText(good)}, {B: slowText(good)}, {A: last}, {B: last}, {A: last, B: last}} {
		for _, cut := range badCuts {
			wantTear(t, d, good, cut, d, api.ErrArg)
			for _, s := range badSaved() {
				wantTear(t, d, s, cut, d, api.ErrArg)
			}
		}
		for _, s := range badSaved() {
			for _, cut := range append([]int{0, 1, 5, 9, 10}, farCuts...) {
				wantTear(t, d, s, cut, d, api.ErrArg)
			}
		}
	}
	for _, d := range disks() {
		wantTear(t, d, good, -1, d, api.ErrArg)
		wantTear(t, d, api.Saved{To: 64}, 3, d, api.ErrArg)
		wantTear(t, d, api.Saved{To: -2}, math.MaxInt, d, api.ErrArg)
		wantTear(t, d, api.Saved{To: -2}, math.MinInt, d, api.ErrArg)
	}
}

func TestTearBehindTheGreatestSeq(t *testing.T) {
	last := slowText(api.Saved{Seq: top, Boot: 1, To: -1})
	for _, other := range places() {
		for _, d := range []api.Disk{{A: last, B: other}, {A: other, B: last}} {
			for _, cut := range append([]int{0, 1, 2, 9, 10, 11}, farCuts...) {
				wantTear(t, d, api.Saved{Boot: 1}, cut, d, api.ErrLarge)
			}
		}
	}
}

func TestTearOfEachDisk(t *testing.T) {
	for _, d := range disks() {
		for _, s := range []api.Saved{{To: -1}, {Seq: 4, Boot: 1, Inc: 200, Epoch: 3, To: 5}, {Seq: top, Boot: top, Inc: top, Epoch: top, To: 63}} {
			for cut := -1; cut < 50; cut++ {
				want, e := slowTear(d, s, cut)
				wantTear(t, d, s, cut, want, e)
			}
			want, e := slowTear(d, s, math.MaxInt)
			wantTear(t, d, s, math.MaxInt, want, e)
		}
	}
}

// wantKept fails if what is read, of a disk to which something is written, or torn at any cut, is not what was written, or what was there.
func wantKept(t *testing.T, d api.Disk, s api.Saved) {
	t.Helper()
	was, wasE := Read(d)
	written, e := Write(d, s)
	if e != api.OK {
		wantWrite(t, d, s, d, e)
		for cut := -1; cut < 50; cut++ {
			if x, _ := Tear(d, s, cut); x != d {
				t.Errorf("Tear(%x, %x; %v; %d) with an error: %x, %x", few(d.A), few(d.B), s, cut, few(x.A), few(x.B))
			}
		}
		return
	}
	s.Seq = was.Seq + 1
	wantRead(t, written, s, api.OK)
	if (written.A != d.A) == (written.B != d.B) {
		t.Errorf("Write(%x, %x; %v): %x, %x", few(d.A), few(d.B), s, few(written.A), few(written.B))
	}
	whole := len(slowText(s))
	for cut := range whole + 3 {
		torn, e := Tear(d, s, cut)
		if e != api.OK {
			t.Errorf("Tear(%x, %x; %v; %d): %d", few(d.A), few(d.B), s, cut, e)
		}
		if cut < whole {
			wantRead(t, torn, was, wasE)
		} else if torn != written {
			t.Errorf("Tear(%x, %x; %v; %d): %x, %x", few(d.A), few(d.B), s, cut, few(torn.A), few(torn.B))
		}
	}
}

func TestWhatFollows(t *testing.T) {
	for _, d := range disks() {
		wantKept(t, d, api.Saved{Seq: 4, Boot: 1, Inc: 300, Epoch: 3, To: -1})
	}
	a := slowText(api.Saved{Seq: 4, Boot: 8})
	for _, s := range append(goodSaved(), badSaved()...) {
		for _, d := range []api.Disk{{}, {A: "x", B: "y"}, {A: a}, {B: a}, {A: a, B: a}} {
			wantKept(t, d, s)
		}
	}
}

func TestTornToABeginningThatIsSealed(t *testing.T) {
	s, cut := opens()
	// What the disk has is of the Seq ahead, so that its text then begins with one that is sealed well.
	last := api.Saved{Seq: s.Seq - 1, Boot: 1, To: -1}
	torn, e := Tear(api.Disk{A: slowText(last)}, s, cut)
	if e != api.OK || sealed(torn.B[:cut-4]) != torn.B {
		t.Fatalf("Tear: %x, %d", torn.B, e)
	}
	wantRead(t, torn, last, api.OK)
	wantKept(t, torn, s)
	wantKept(t, api.Disk{A: slowText(last)}, s)
	wantKept(t, api.Disk{B: slowText(last)}, s)
}

func TestTornAgainAndAgain(t *testing.T) {
	r := rand.New(rand.NewSource(seed))
	met := map[api.Errno]int{}
	for range 200 {
		var d api.Disk
		if r.Intn(3) == 0 {
			d = api.Disk{A: slowText(drawnSaved(r)), B: slowText(drawnSaved(r))}
		}
		for range 30 {
			s := drawnSaved(r)
			if r.Intn(10) == 0 {
				s.To = badTo[r.Intn(len(badTo))]
			}
			wantKept(t, d, s)
			cut := r.Intn(52) - 1
			then, e := slowTear(d, s, cut)
			wantTear(t, d, s, cut, then, e)
			met[e]++
			d = then
			switch r.Intn(20) {
			case 0:
				// It is spoilt where it stands.
				if len(d.A) > 0 {
					d.A = turned(d.A, r.Intn(len(d.A)), byte(1+r.Intn(255)))
				}
			case 1:
				d.B = d.B[:r.Intn(len(d.B)+1)]
			case 2:
				d.A, d.B = d.B, d.A
			case 3:
				d.B = slowText(api.Saved{Seq: top - uint64(r.Intn(3)), To: -1})
			}
			want, place := slowHas(d)
			if place == 0 {
				wantRead(t, d, api.Saved{}, api.ErrNone)
			} else {
				wantRead(t, d, want, api.OK)
			}
		}
	}
	for _, e := range []api.Errno{api.OK, api.ErrArg, api.ErrLarge} {
		if met[e] < 100 {
			t.Errorf("drawn: %v", met)
		}
	}
}
