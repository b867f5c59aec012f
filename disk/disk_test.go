package disk

import (
	"math"
	"math/rand"
	"strings"
	"testing"

	"tattle/api"
)

// The tests' draws are from this seed, so that a failure comes again.
const seed = 1

// top is the greatest number there is.
const top = math.MaxUint64

// goodNumbers are numbers of note: those at which their octets become one more, and the least and the greatest.
var goodNumbers = []uint64{
	0, 1, 2, 126, 127, 128, 129, 255, 256, 300, 1<<14 - 1, 1 << 14, 1<<21 - 1, 1 << 21, 1<<28 - 1, 1 << 28, 1<<31 - 1, 1 << 31, 1<<32 - 1, 1 << 32,
	1<<35 - 1, 1 << 35, 1<<42 - 1, 1 << 42, 1<<49 - 1, 1 << 49, 1<<56 - 1, 1 << 56, 1<<63 - 1, 1 << 63, top - 1, top,
}

// badTo are no nodes' numbers, nor -1.
var badTo = []int{-2, 64, 65, -3, -63, -64, -65, 127, 128, 255, 256, 319, 1 << 31, -1 << 31, 1 << 32, 1<<32 + 5, 1<<32 - 1, -1 << 32, -1<<32 + 5, -1<<32 - 1, math.MinInt, math.MinInt + 1, math.MaxInt - 1, math.MaxInt}

// goodSaved is what may be saved, of each kind.
func goodSaved() []api.Saved {
	l := []api.Saved{{}, {To: -1}, {Seq: 1, Boot: 2, Inc: 300, Epoch: 4, To: -1}, {Seq: top, Boot: top, Inc: top, Epoch: top, To: 63}}
	for to := -1; to < 64; to++ {
		l = append(l, api.Saved{Seq: 5, Boot: 6, Inc: 7, Epoch: 8, To: to})
	}
	for _, n := range goodNumbers {
		l = append(l,
			api.Saved{Seq: n, Boot: 1, Inc: 2, Epoch: 3, To: 4},
			api.Saved{Seq: 1, Boot: n, Inc: 2, Epoch: 3, To: 4},
			api.Saved{Seq: 1, Boot: 2, Inc: n, Epoch: 3, To: 4},
			api.Saved{Seq: 1, Boot: 2, Inc: 3, Epoch: n, To: 4},
			api.Saved{Seq: n, Boot: n, Inc: n, Epoch: n, To: -1},
		)
	}
	return l
}

// badSaved is what may not be saved.
func badSaved() []api.Saved {
	var l []api.Saved
	for _, to := range badTo {
		l = append(l, api.Saved{To: to}, api.Saved{Seq: 1, Boot: 2, Inc: 3, Epoch: 4, To: to}, api.Saved{Seq: top, Boot: top, Inc: top, Epoch: top, To: to})
	}
	return l
}

// drawnNumber is a number of any length.
func drawnNumber(r *rand.Rand) uint64 { return r.Uint64() >> r.Intn(64) }

// drawnSaved is what may be saved.
func drawnSaved(r *rand.Rand) api.Saved {
	return api.Saved{Seq: drawnNumber(r), Boot: drawnNumber(r), Inc: drawnNumber(r), Epoch: drawnNumber(r), To: r.Intn(65) - 1}
}

// goodPlaces are texts that can be read, of Seqs that are less, greater, and the same.
func goodPlaces() []string {
	var l []string
	for _, n := range []uint64{0, 1, 2, 127, 128, 255, 256, 1 << 32, 1<<63 - 1, 1 << 63, top - 1, top} {
		l = append(l, slowText(api.Saved{Seq: n}), slowText(api.Saved{Seq: n, Boot: 3, Inc: 2, Epoch: 1, To: 63}))
	}
	return l
}

// badPlaces are texts that cannot be read, also such as would be of a great Seq.
func badPlaces() []string {
	great := slowText(api.Saved{Seq: top, Boot: 9, Inc: 9, Epoch: 9, To: 9})
	return []string{
		"", "\x00", "abc", "\x00\x00\x00\x00", sealed(""), strings.Repeat("x", 4101),
		great[:1], great[:4], great[:len(great)-5], great[:len(great)-4], great[:len(great)-1],
		great + "\x00", great[1:], great + great, turned(great, 0, 1), turned(great, 3, 128), turned(great, len(great)-1, 16),
		laid(top, 9, 9, 9, 65), laid(top, 9, 9, 9), laid(top, 9, 9, 9, 10, 0), sealed("\x06" + slowNums(top, 9, 9, 9, 10)),
		sealed(strings.Repeat("x", 4096)), sealed(strings.Repeat("x", 4097)),
	}
}

// places are texts of each kind.
func places() []string { return append(goodPlaces(), badPlaces()...) }

// disks are disks of each of the places, and each of the places.
func disks() []api.Disk {
	var l []api.Disk
	for _, a := range places() {
		for _, b := range places() {
			l = append(l, api.Disk{A: a, B: b})
		}
	}
	return l
}

// turned is a text of which some bits of an octet are turned.
func turned(t string, at int, bits byte) string {
	b := []byte(t)
	b[at] ^= bits
	return string(b)
}

// few is as much of a text as a failure shows.
func few(t string) string { return t[:min(len(t), 60)] }

// The slow models call no layer below.

// slowNums is numbers' octets, one behind the other.
func slowNums(n ...uint64) string {
	t := ""
	for _, x := range n {
		for x/128 > 0 {
			t += string([]byte{byte(x%128) + 128})
			x /= 128
		}
		t += string([]byte{byte(x)})
	}
	return t
}

// slowSum is octets' sum, bit by bit.
func slowSum(s string) uint32 {
	r := uint32(math.MaxUint32)
	for i := range len(s) {
		r ^= uint32(s[i])
		for range 8 {
			out := r % 2
			r /= 2
			if out == 1 {
				r ^= 0xedb88320
			}
		}
	}
	return math.MaxUint32 - r
}

// sumOctets is octets' sum as four octets.
func sumOctets(s string) string {
	r := slowSum(s)
	return string([]byte{byte(r), byte(r >> 8), byte(r >> 16), byte(r >> 24)})
}

// sealed is octets, sealed, however many they are.
func sealed(s string) string { return s + sumOctets(s) }

// laid is numbers, however many, with the number of their octets ahead, sealed.
func laid(n ...uint64) string {
	l := slowNums(n...)
	return sealed(slowNums(uint64(len(l))) + l)
}

// slowText is the text of what may be saved.
func slowText(s api.Saved) string { return laid(s.Seq, s.Boot, s.Inc, s.Epoch, uint64(s.To+1)) }

// slowTake is all numbers of octets, if they are numbers' octets.
func slowTake(x string) ([]uint64, bool) {
	var l []uint64
	for x != "" {
		i := 0
		for i < len(x)-1 && x[i] >= 128 {
			i++
		}
		var n uint64
		for j := i; j >= 0; j-- {
			n = n*128 + uint64(x[j]%128)
		}
		// A number that is laid down longer than it need be, or has more than 64 bits, or does not end, has other octets.
		if slowNums(n) != x[:i+1] {
			return nil, false
		}
		l, x = append(l, n), x[i+1:]
	}
	return l, true
}

// slowParse is a text's.
func slowParse(t string) (api.Saved, api.Errno) {
	switch {
	case len(t) < 4:
		return api.Saved{}, api.ErrShort
	case len(t) > 4100:
		return api.Saved{}, api.ErrLarge
	case sealed(t[:len(t)-4]) != t:
		return api.Saved{}, api.ErrSum
	}
	l, ok := slowTake(t[:len(t)-4])
	if !ok || len(l) != 6 || l[0] != uint64(len(slowNums(l[1:]...))) || l[5] > 64 {
		return api.Saved{}, api.ErrForm
	}
	return api.Saved{Seq: l[1], Boot: l[2], Inc: l[3], Epoch: l[4], To: int(l[5]) - 1}, api.OK
}

// slowHas is what a disk has, and in which place: A, B, or none.
func slowHas(d api.Disk) (api.Saved, byte) {
	a, ea := slowParse(d.A)
	b, eb := slowParse(d.B)
	switch {
	case ea != api.OK && eb != api.OK:
		return api.Saved{}, 0
	case ea != api.OK:
		return b, 'B'
	case eb != api.OK || a.Seq >= b.Seq:
		return a, 'A'
	}
	return b, 'B'
}

// slowTear is the disk then.
func slowTear(d api.Disk, s api.Saved, cut int) (api.Disk, api.Errno) {
	last, place := slowHas(d)
	switch {
	case cut < 0 || s.To < -1 || s.To > 63:
		return d, api.ErrArg
	case place != 0 && last.Seq == top:
		return d, api.ErrLarge
	case place == 0:
		s.Seq = 1
	default:
		s.Seq = last.Seq + 1
	}
	t := slowText(s)
	if cut < len(t) {
		t = t[:cut]
	}
	if place == 'A' {
		return api.Disk{A: d.A, B: t}, api.OK
	}
	return api.Disk{A: t, B: d.B}, api.OK
}

func wantLay(t *testing.T, s api.Saved, want string, wantE api.Errno) {
	t.Helper()
	if l, e := Lay(s); l != want || e != wantE {
		t.Errorf("Lay(%v): %x, %d; want %x, %d", s, l, e, want, wantE)
	}
}

func wantParse(t *testing.T, text string, want api.Saved, wantE api.Errno) {
	t.Helper()
	if s, e := Parse(text); s != want || e != wantE {
		t.Errorf("Parse(%d: %x): %v, %d; want %v, %d", len(text), few(text), s, e, want, wantE)
	}
}

func wantRead(t *testing.T, d api.Disk, want api.Saved, wantE api.Errno) {
	t.Helper()
	if s, e := Read(d); s != want || e != wantE {
		t.Errorf("Read(%x, %x): %v, %d; want %v, %d", few(d.A), few(d.B), s, e, want, wantE)
	}
}

func wantWrite(t *testing.T, d api.Disk, s api.Saved, want api.Disk, wantE api.Errno) {
	t.Helper()
	if x, e := Write(d, s); x != want || e != wantE {
		t.Errorf("Write(%x, %x; %v): %x, %x, %d; want %x, %x, %d", few(d.A), few(d.B), s, few(x.A), few(x.B), e, few(want.A), few(want.B), wantE)
	}
}

func wantTear(t *testing.T, d api.Disk, s api.Saved, cut int, want api.Disk, wantE api.Errno) {
	t.Helper()
	if x, e := Tear(d, s, cut); x != want || e != wantE {
		t.Errorf("Tear(%x, %x; %v; %d): %x, %x, %d; want %x, %x, %d", few(d.A), few(d.B), s, cut, few(x.A), few(x.B), e, few(want.A), few(want.B), wantE)
	}
}

// The chapter's examples

func TestExamples(t *testing.T) {
	s := api.Saved{Boot: 1, Inc: 2, Epoch: 3, To: 4}
	first := "\x05\x01\x01\x02\x03\x05" + sumOctets("\x05\x01\x01\x02\x03\x05")
	second := "\x05\x02\x01\x02\x03\x05" + sumOctets("\x05\x02\x01\x02\x03\x05")
	wantWrite(t, api.Disk{}, s, api.Disk{A: first}, api.OK)
	wantRead(t, api.Disk{A: first}, api.Saved{Seq: 1, Boot: 1, Inc: 2, Epoch: 3, To: 4}, api.OK)
	wantWrite(t, api.Disk{A: first}, s, api.Disk{A: first, B: second}, api.OK)
	wantRead(t, api.Disk{A: first, B: second}, api.Saved{Seq: 2, Boot: 1, Inc: 2, Epoch: 3, To: 4}, api.OK)
	for cut := range len(second) {
		wantTear(t, api.Disk{A: first}, s, cut, api.Disk{A: first, B: second[:cut]}, api.OK)
		wantRead(t, api.Disk{A: first, B: second[:cut]}, api.Saved{Seq: 1, Boot: 1, Inc: 2, Epoch: 3, To: 4}, api.OK)
	}
}
