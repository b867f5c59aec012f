package disk

import (
	"slices"
	"testing"

	"tattle/api"
)

// P16.2: Read, Write

func TestReadOfNeither(t *testing.T) {
	for _, a := range badPlaces() {
		for _, b := range badPlaces() {
			wantRead(t, api.Disk{A: a, B: b}, api.Saved{}, api.ErrNone)
		}
	}
}

func TestReadOfOneAlone(t *testing.T) {
	for _, s := range goodSaved() {
		for _, bad := range badPlaces() {
			wantRead(t, api.Disk{A: slowText(s), B: bad}, s, api.OK)
			wantRead(t, api.Disk{A: bad, B: slowText(s)}, s, api.OK)
		}
	}
}

func TestReadOfBoth(t *testing.T) {
	for i, less := range goodNumbers {
		for _, greater := range goodNumbers[i+1:] {
			// The greater Seq tells, and nothing else: all else is less, or greater, or the same.
			for _, n := range [][2]uint64{{1, 2}, {2, 1}, {1, 1}, {0, top}, {top, 0}} {
				old := api.Saved{Seq: less, Boot: n[0], Inc: n[0], Epoch: n[0], To: int(n[0] % 64)}
				young := api.Saved{Seq: greater, Boot: n[1], Inc: n[1], Epoch: n[1], To: int(n[1] % 64)}
				wantRead(t, api.Disk{A: slowText(old), B: slowText(young)}, young, api.OK)
				wantRead(t, api.Disk{A: slowText(young), B: slowText(old)}, young, api.OK)
			}
		}
	}
}

func TestReadOfBothWithTheSameSeq(t *testing.T) {
	for _, n := range goodNumbers {
		l := []api.Saved{{Seq: n}, {Seq: n, To: -1}, {Seq: n, To: 63}, {Seq: n, Boot: 1}, {Seq: n, Inc: 1}, {Seq: n, Epoch: 1}, {Seq: n, Boot: top, Inc: top, Epoch: top, To: 63}}
		for _, a := range l {
			for _, b := range l {
				wantRead(t, api.Disk{A: slowText(a), B: slowText(b)}, a, api.OK)
			}
		}
	}
}

func TestReadOfEachDisk(t *testing.T) {
	met := map[byte]int{}
	for _, d := range disks() {
		s, place := slowHas(d)
		met[place]++
		if place == 0 {
			wantRead(t, d, api.Saved{}, api.ErrNone)
		} else {
			wantRead(t, d, s, api.OK)
		}
	}
	for _, place := range []byte{0, 'A', 'B'} {
		if met[place] < 400 {
			t.Errorf("met: %v", met)
		}
	}
}

func TestWriteToNothing(t *testing.T) {
	for _, s := range goodSaved() {
		first := s
		first.Seq = 1
		for _, a := range badPlaces() {
			for _, b := range badPlaces() {
				wantWrite(t, api.Disk{A: a, B: b}, s, api.Disk{A: slowText(first), B: b}, api.OK)
			}
		}
	}
}

func TestWriteToEachPlace(t *testing.T) {
	s := api.Saved{Seq: 77, Boot: 5, Inc: 6, Epoch: 7, To: 8}
	for _, n := range goodNumbers[:len(goodNumbers)-1] {
		next := s
		next.Seq = n + 1
		last := slowText(api.Saved{Seq: n, Boot: 1, To: -1})
		for _, bad := range badPlaces() {
			wantWrite(t, api.Disk{A: last, B: bad}, s, api.Disk{A: last, B: slowText(next)}, api.OK)
			wantWrite(t, api.Disk{A: bad, B: last}, s, api.Disk{A: slowText(next), B: last}, api.OK)
		}
		// Of the same Seq, the same in all else and not, what the disk has is A's.
		other := slowText(api.Saved{Seq: n, Boot: 2, To: 63})
		wantWrite(t, api.Disk{A: last, B: last}, s, api.Disk{A: last, B: slowText(next)}, api.OK)
		wantWrite(t, api.Disk{A: last, B: other}, s, api.Disk{A: last, B: slowText(next)}, api.OK)
		wantWrite(t, api.Disk{A: other, B: last}, s, api.Disk{A: other, B: slowText(next)}, api.OK)
		for _, m := range goodNumbers {
			if m < n {
				old := slowText(api.Saved{Seq: m, Boot: 9})
				wantWrite(t, api.Disk{A: last, B: old}, s, api.Disk{A: last, B: slowText(next)}, api.OK)
				wantWrite(t, api.Disk{A: old, B: last}, s, api.Disk{A: slowText(next), B: last}, api.OK)
			}
		}
	}
}

func TestWriteOfEachSeq(t *testing.T) {
	// The Seq of what is to be saved plays no part.
	for _, n := range goodNumbers {
		s := api.Saved{Seq: n, Boot: 5, Inc: 6, Epoch: 7, To: 8}
		first, second := s, s
		first.Seq, second.Seq = 1, 2
		d := api.Disk{A: slowText(first)}
		wantWrite(t, api.Disk{}, s, d, api.OK)
		wantWrite(t, d, s, api.Disk{A: d.A, B: slowText(second)}, api.OK)
	}
}

func TestWriteAgainAndAgain(t *testing.T) {
	d := api.Disk{}
	for i := range uint64(1000) {
		s := api.Saved{Boot: i / 7, Inc: i * i, Epoch: i << 40, To: int(i%65) - 1}
		now := s
		now.Seq = i + 1
		want := api.Disk{A: slowText(now), B: d.B}
		if i%2 == 1 {
			want = api.Disk{A: d.A, B: slowText(now)}
		}
		wantWrite(t, d, s, want, api.OK)
		d = want
		wantRead(t, d, now, api.OK)
	}
}

func TestWriteTheSameAgainAndAgain(t *testing.T) {
	s := api.Saved{Seq: 3, Boot: 1, Inc: 1, Epoch: 1, To: 1}
	d := api.Disk{}
	for i := range uint64(300) {
		was := d
		d, _ = Write(d, s)
		wantWrite(t, was, s, d, api.OK)
		wantRead(t, d, api.Saved{Seq: i + 1, Boot: 1, Inc: 1, Epoch: 1, To: 1}, api.OK)
		if (d.A == was.A) != (i%2 == 1) || (d.B == was.B) != (i%2 == 0) {
			t.Errorf("write %d: %x, %x", i, d.A, d.B)
		}
	}
}

func TestWriteOfWhatMayNotBe(t *testing.T) {
	for _, d := range disks() {
		for _, to := range []int{-2, 64, 1 << 32, -1 << 63, 1<<63 - 1} {
			wantWrite(t, d, api.Saved{Boot: 1, To: to}, d, api.ErrArg)
		}
	}
	last := slowText(api.Saved{Seq: top})
	for _, s := range badSaved() {
		wantWrite(t, api.Disk{}, s, api.Disk{}, api.ErrArg)
		wantWrite(t, api.Disk{A: "x", B: "y"}, s, api.Disk{A: "x", B: "y"}, api.ErrArg)
		// ErrArg ahead of ErrLarge.
		wantWrite(t, api.Disk{A: last}, s, api.Disk{A: last}, api.ErrArg)
		wantWrite(t, api.Disk{B: last}, s, api.Disk{B: last}, api.ErrArg)
	}
}

func TestWriteBehindTheGreatestSeq(t *testing.T) {
	last := slowText(api.Saved{Seq: top, Boot: 1, To: -1})
	before := slowText(api.Saved{Seq: top - 1, Boot: 2, To: -1})
	for _, s := range goodSaved() {
		for _, other := range slices.Concat(places(), []string{last, before}) {
			for _, d := range []api.Disk{{A: last, B: other}, {A: other, B: last}} {
				wantWrite(t, d, s, d, api.ErrLarge)
				if _, place := slowHas(d); place == 0 {
					t.Fatalf("%x, %x has nothing", d.A, d.B)
				}
			}
		}
		end := s
		end.Seq = top
		wantWrite(t, api.Disk{A: before}, s, api.Disk{A: before, B: slowText(end)}, api.OK)
		wantWrite(t, api.Disk{B: before}, s, api.Disk{A: slowText(end), B: before}, api.OK)
		// What only would be of the greatest Seq, if it could be read, is nothing.
		torn := last[:len(last)-1]
		end.Seq = 1
		wantWrite(t, api.Disk{A: torn, B: torn}, s, api.Disk{A: slowText(end), B: torn}, api.OK)
	}
}

func TestWriteToEachDisk(t *testing.T) {
	for _, d := range disks() {
		for _, s := range []api.Saved{{}, {Seq: 4, Boot: 1, Inc: 2, Epoch: 3, To: -1}, {Seq: top, Boot: top, Inc: top, Epoch: top, To: 63}} {
			want, e := slowTear(d, s, 100)
			wantWrite(t, d, s, want, e)
		}
	}
}
