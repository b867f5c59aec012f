package disk

import (
	"math/rand"
	"slices"
	"strings"
	"testing"

	"tattle/api"
)

// P16.1: Lay, Parse

func TestLayKnown(t *testing.T) {
	great := "\xff\xff\xff\xff\xff\xff\xff\xff\xff\x01"
	for _, c := range []struct {
		s    api.Saved
		want string
	}{
		{api.Saved{To: -1}, "\x05\x00\x00\x00\x00\x00"},
		{api.Saved{}, "\x05\x00\x00\x00\x00\x01"},
		{api.Saved{To: 63}, "\x05\x00\x00\x00\x00\x40"},
		{api.Saved{Seq: 1, Boot: 2, Inc: 3, Epoch: 4, To: 5}, "\x05\x01\x02\x03\x04\x06"},
		{api.Saved{Seq: 127, Boot: 128, Inc: 300, Epoch: 16384, To: 62}, "\x09\x7f\x80\x01\xac\x02\x80\x80\x01\x3f"},
		{api.Saved{Seq: top, To: -1}, "\x0e" + great + "\x00\x00\x00\x00"},
		{api.Saved{Boot: top, To: -1}, "\x0e\x00" + great + "\x00\x00\x00"},
		{api.Saved{Inc: top, To: -1}, "\x0e\x00\x00" + great + "\x00\x00"},
		{api.Saved{Epoch: top, To: -1}, "\x0e\x00\x00\x00" + great + "\x00"},
		{api.Saved{Seq: top, Boot: top, Inc: top, Epoch: top, To: 63}, "\x29" + great + great + great + great + "\x40"},
	} {
		wantLay(t, c.s, c.want+sumOctets(c.want), api.OK)
		wantParse(t, c.want+sumOctets(c.want), c.s, api.OK)
	}
	// The sum is a known one, so that the slow one is no other.
	if n := slowSum("123456789"); n != 0xcbf43926 {
		t.Errorf("slowSum: %x", n)
	}
}

func TestLayOfWhatMayBe(t *testing.T) {
	for _, s := range goodSaved() {
		wantLay(t, s, slowText(s), api.OK)
		wantParse(t, slowText(s), s, api.OK)
	}
}

func TestLayOfWhatMayNotBe(t *testing.T) {
	for _, s := range badSaved() {
		wantLay(t, s, "", api.ErrArg)
	}
	for to := -300; to < 400; to++ {
		s := api.Saved{Seq: 1, Boot: 2, Inc: 3, Epoch: 4, To: to}
		if to >= -1 && to <= 63 {
			wantLay(t, s, slowText(s), api.OK)
		} else {
			wantLay(t, s, "", api.ErrArg)
		}
	}
}

func TestParseOfWhatIsNotSealed(t *testing.T) {
	for _, x := range []string{"", "\x00", "\x05\x00", "abc"} {
		wantParse(t, x, api.Saved{}, api.ErrShort)
	}
	for _, x := range []string{"\x00\x00\x00\x01", "abcd", "\x05\x00\x00\x00\x00\x00", strings.Repeat("x", 4100)} {
		wantParse(t, x, api.Saved{}, api.ErrSum)
	}
	for _, n := range []int{4101, 4102, 5000, 100000} {
		wantParse(t, strings.Repeat("x", n), api.Saved{}, api.ErrLarge)
		wantParse(t, sealed(strings.Repeat("\x00", n-4)), api.Saved{}, api.ErrLarge)
	}
}

func TestParseOfEachBeginning(t *testing.T) {
	for _, s := range goodSaved() {
		text := slowText(s)
		for cut := range len(text) {
			_, want := slowParse(text[:cut])
			if want == api.OK || cut < 4 && want != api.ErrShort {
				t.Fatalf("the beginning %x: %d", text[:cut], want)
			}
			wantParse(t, text[:cut], api.Saved{}, want)
		}
	}
}

// opens is what is saved whose text begins with one that is sealed well, and of how many octets that is.
func opens() (api.Saved, int) {
	for seq := uint64(1); ; seq++ {
		n := slowNums(seq)
		// Behind the Seq, the Boot's four octets are the sum of what is ahead of them.
		sum := sumOctets(slowNums(uint64(len(n))+7) + n)
		if l, ok := slowTake(sum); ok && len(l) == 1 {
			return api.Saved{Seq: seq, Boot: l[0], Inc: 1, Epoch: 1, To: 1}, 1 + len(n) + 4
		}
	}
}

func TestParseOfABeginningThatIsSealed(t *testing.T) {
	s, cut := opens()
	text := slowText(s)
	if sealed(text[:cut-4]) != text[:cut] {
		t.Fatalf("%x is not sealed", text[:cut])
	}
	wantParse(t, text, s, api.OK)
	wantParse(t, text[:cut], api.Saved{}, api.ErrForm)
}

func TestParseOfMoreOctets(t *testing.T) {
	for _, s := range goodSaved() {
		text := slowText(s)
		for c := range 256 {
			octet := string([]byte{byte(c)})
			for _, x := range []string{text + octet, octet + text} {
				_, want := slowParse(x)
				if want != api.ErrSum {
					t.Fatalf("with an octet more, %x: %d", x, want)
				}
				wantParse(t, x, api.Saved{}, api.ErrSum)
			}
		}
		wantParse(t, text+text, api.Saved{}, api.ErrSum)
		wantParse(t, text[1:], api.Saved{}, api.ErrSum)
	}
}

func TestParseOfAnotherOctet(t *testing.T) {
	for _, s := range []api.Saved{{}, {Seq: 1, Boot: 2, Inc: 300, Epoch: 4, To: -1}, {Seq: 5, Boot: 1 << 20, Inc: 1 << 40, Epoch: 1 << 60, To: 7}, {Seq: top, Boot: top, Inc: top, Epoch: top, To: 63}} {
		text := slowText(s)
		for at := range len(text) {
			for bits := 1; bits < 256; bits++ {
				wantParse(t, turned(text, at, byte(bits)), api.Saved{}, api.ErrSum)
			}
		}
	}
}

// wantForm fails if octets, sealed, are taken for what may be.
func wantForm(t *testing.T, x string) {
	t.Helper()
	if _, e := slowParse(sealed(x)); e != api.ErrForm {
		t.Fatalf("%x, sealed: %d", x, e)
	}
	wantParse(t, sealed(x), api.Saved{}, api.ErrForm)
}

func TestParseOfAnotherNumberOfOctets(t *testing.T) {
	for _, s := range goodSaved() {
		n := slowNums(s.Seq, s.Boot, s.Inc, s.Epoch, uint64(s.To+1))
		for said := range uint64(300) {
			if said != uint64(len(n)) {
				wantForm(t, slowNums(said)+n)
			}
		}
		for _, said := range goodNumbers {
			if said != uint64(len(n)) {
				wantForm(t, slowNums(said)+n)
			}
		}
		for _, more := range []uint64{1 << 8, 1 << 16, 1 << 32, 1 << 63} {
			wantForm(t, slowNums(uint64(len(n))+more)+n)
		}
		wantForm(t, n)
		// The number itself is not counted, nor is the sum.
		wantForm(t, slowNums(uint64(len(n))+1)+n)
		wantForm(t, slowNums(uint64(len(n))+4)+n)
	}
}

func TestParseOfAnotherNumberOfNumbers(t *testing.T) {
	for n := range 41 {
		if l := slices.Repeat([]uint64{1}, n); n == 5 {
			wantParse(t, laid(l...), api.Saved{Seq: 1, Boot: 1, Inc: 1, Epoch: 1, To: 0}, api.OK)
		} else {
			wantForm(t, slowNums(uint64(n))+slowNums(l...))
		}
	}
	for _, s := range goodSaved() {
		all := []uint64{s.Seq, s.Boot, s.Inc, s.Epoch, uint64(s.To + 1)}
		for at := range all {
			less := slowNums(slices.Delete(slices.Clone(all), at, at+1)...)
			wantForm(t, slowNums(uint64(len(less)))+less)
		}
		for at := range 6 {
			for _, x := range []uint64{0, 1, 64, 65, top} {
				more := slowNums(slices.Insert(slices.Clone(all), at, x)...)
				wantForm(t, slowNums(uint64(len(more)))+more)
				// As many octets are said as there would be without it.
				wantForm(t, slowNums(uint64(len(slowNums(all...))))+more)
			}
		}
	}
	wantForm(t, "")
	wantForm(t, "\x00")
	wantForm(t, strings.Repeat("\x00", 4096))
	wantForm(t, strings.Repeat("\xff", 4096))
}

func TestParseOfOctetsBehind(t *testing.T) {
	for _, s := range goodSaved() {
		n := slowNums(s.Seq, s.Boot, s.Inc, s.Epoch, uint64(s.To+1))
		for _, behind := range []string{"\x00", "\x01", "\x7f", "\x80", "\xff", "\x00\x00", "\x80\x00", "\x80\x01", "abcd", n, strings.Repeat("x", 4000)} {
			wantForm(t, slowNums(uint64(len(n)))+n+behind)
			wantForm(t, slowNums(uint64(len(n)+len(behind)))+n+behind)
		}
	}
}

func TestParseOfOctetsThatAreNoNumbers(t *testing.T) {
	for _, s := range goodSaved() {
		parts := []string{slowNums(s.Seq), slowNums(s.Boot), slowNums(s.Inc), slowNums(s.Epoch), slowNums(uint64(s.To + 1))}
		for at, part := range parts {
			last := len(part) - 1
			// Longer than it need be, without an end, and of more than 64 bits.
			for _, bad := range []string{
				part[:last] + turned(part[last:], 0, 128) + "\x00",
				part[:last] + turned(part[last:], 0, 128) + "\x80\x00",
				part[:last] + turned(part[last:], 0, 128),
				"\xff\xff\xff\xff\xff\xff\xff\xff\xff\x02",
				"\x80\x80\x80\x80\x80\x80\x80\x80\x80\x7f",
				"\x80\x80\x80\x80\x80\x80\x80\x80\x80\x80\x01",
			} {
				n := strings.Join(slices.Replace(slices.Clone(parts), at, at+1, bad), "")
				wantForm(t, slowNums(uint64(len(n)))+n)
				wantForm(t, slowNums(uint64(len(strings.Join(parts, ""))))+n)
			}
		}
		n := strings.Join(parts, "")
		// How many octets they have, longer than it need be.
		wantForm(t, string([]byte{byte(len(n)) | 128})+"\x00"+n)
		wantForm(t, string([]byte{byte(len(n)) | 128})+"\x80\x00"+n)
		wantForm(t, string([]byte{byte(len(n)) | 128})+n)
		for cut := range len(n) {
			wantForm(t, slowNums(uint64(cut))+n[:cut])
			wantForm(t, slowNums(uint64(len(n)))+n[:cut])
		}
	}
}

func TestParseOfToThatMayNotBe(t *testing.T) {
	wantTo := func(to uint64) {
		t.Helper()
		for _, n := range [][]uint64{{0, 0, 0, 0, to}, {1, 2, 3, 4, to}, {top, top, top, top, to}} {
			if to <= 64 {
				wantParse(t, laid(n...), api.Saved{Seq: n[0], Boot: n[1], Inc: n[2], Epoch: n[3], To: int(to) - 1}, api.OK)
			} else {
				wantParse(t, laid(n...), api.Saved{}, api.ErrForm)
			}
		}
	}
	for to := range uint64(400) {
		wantTo(to)
		wantTo(top - to)
		wantTo(1<<8 + to)
		wantTo(1<<16 + to)
		wantTo(1<<31 + to)
		wantTo(1<<32 - to)
		wantTo(1<<32 + to)
		wantTo(1<<63 - to)
		wantTo(1<<63 + to)
	}
	for _, to := range goodNumbers {
		wantTo(to)
	}
}

func TestParseOfWhatIsDrawn(t *testing.T) {
	r := rand.New(rand.NewSource(seed))
	met := map[api.Errno]int{}
	for range 40000 {
		s := drawnSaved(r)
		wantLay(t, s, slowText(s), api.OK)
		x := []byte(slowText(s))
		x = x[:len(x)-4]
		// Up to two octets are other ones, come, or go, and it is sealed again.
		for range r.Intn(3) {
			switch at := r.Intn(len(x)); r.Intn(3) {
			case 0:
				x[at] = byte(r.Intn(256))
			case 1:
				x = slices.Insert(x, at, byte(r.Intn(256)))
			case 2:
				x = slices.Delete(x, at, at+1)
			}
		}
		text := sealed(string(x))
		if r.Intn(4) == 0 {
			text = text[:r.Intn(len(text))]
		}
		want, e := slowParse(text)
		met[e]++
		wantParse(t, text, want, e)
		if e == api.OK {
			wantLay(t, want, text, api.OK)
		}
	}
	for _, e := range []api.Errno{api.OK, api.ErrForm, api.ErrShort, api.ErrSum} {
		if met[e] < 500 {
			t.Errorf("drawn: %v", met)
		}
	}
}
