package msg

import (
	"math/rand"
	"strings"
	"testing"

	"tattle/api"
)

// P10.2: Read.

func TestReadOfTheExample(t *testing.T) {
	s := "\x04\x01\x02\x05\x03\x29\x47\xe4\x6c"
	wantRead(t, s, api.Msg{Kind: api.NackM, From: 1, To: 2, Seq: 5, Who: 3})
	wantNone(t, s[:8], api.ErrSum)
	wantNone(t, s[:4], api.ErrSum)
	wantNone(t, s[1:], api.ErrSum)
	wantNoForm(t, "\x04\x01\x01\x05\x03")
}

func TestReadOfTooShort(t *testing.T) {
	for _, s := range []string{"", "a", "\x00", "\x04\x01", "abc", "\x00\x00\x00"} {
		wantNone(t, s, api.ErrShort)
	}
}

func TestReadOfWhatIsSealedButEmpty(t *testing.T) {
	wantNone(t, "\x00\x00\x00\x00", api.ErrForm)
	wantNoForm(t, "")
}

func TestReadOfTooLarge(t *testing.T) {
	for _, n := range []int{4095, 4096} {
		wantNoForm(t, strings.Repeat("\x00", n))
		wantNoForm(t, octetsOf(usual(api.NackM))+strings.Repeat("\x00", n-6))
		wantNone(t, strings.Repeat("\x01", n+4), api.ErrSum)
	}
	for _, n := range []int{4097, 4098, 5000, 65536} {
		wantNone(t, sealed(strings.Repeat("\x00", n)), api.ErrLarge)
		wantNone(t, strings.Repeat("\x00", n+4), api.ErrLarge)
		wantNone(t, sealed(octetsOf(usual(api.NackM))+strings.Repeat("\x00", n-6)), api.ErrLarge)
	}
}

func TestReadOfWhatIsCutAtEachPlace(t *testing.T) {
	for _, m := range some() {
		s := sealed(octetsOf(m))
		for cut := range len(s) {
			want := api.ErrSum
			if cut < 4 {
				want = api.ErrShort
			}
			wantNone(t, s[:cut], want)
		}
	}
}

// Where the octets are cut, and sealed again, what was there is not there any more.
func TestReadOfOctetsCutAtEachPlace(t *testing.T) {
	for _, m := range some() {
		o := octetsOf(m)
		for cut := range len(o) {
			wantNoForm(t, o[:cut])
			wantReadLikeSlow(t, o[cut:])
		}
	}
}

func TestReadOfAWrongSum(t *testing.T) {
	for _, m := range some() {
		s := sealed(octetsOf(m))
		at := len(s) - 4
		for i := range 4 {
			for bit := range 8 {
				b := []byte(s)
				b[at+i] ^= 1 << bit
				wantNone(t, string(b), api.ErrSum)
			}
		}
		wantNone(t, s[:at]+string([]byte{s[at+3], s[at+2], s[at+1], s[at]}), api.ErrSum)
		wantNone(t, s[:at]+"\x00\x00\x00\x00", api.ErrSum)
		wantNone(t, s[:at]+"\xff\xff\xff\xff", api.ErrSum)
		wantNone(t, s+"\x00", api.ErrSum)
		wantNone(t, s+s, api.ErrSum)
		wantNone(t, "\x00"+s, api.ErrSum)
	}
	// What is spoilt, and no message either, is spoilt.
	wantNone(t, "\x00\x00\x00\x00\x00\x00", api.ErrSum)
	wantNone(t, "no message", api.ErrSum)
}

// withPiece is a message's octets with others in place of those of its Kind (0), From (1), To (2), or a part (3 and on).
func withPiece(m api.Msg, at int, octets string) string {
	return strings.Join(but(pieces(m), at, octets), "")
}

// badNumbers are octets of numbers above one that is the greatest.
func badNumbers(most uint64) []string {
	l := []string{num(greatest), num(greatest - 1), num(1 << 63), num(1<<63 + 1), num(1<<63 - 1)}
	for _, n := range []uint64{1, 2, 3, 64, 128, 256, 1 << 32, 1<<32 + 1, 1 << 40, 1 << 62, 1<<64 - 1 - most} {
		l = append(l, num(most+n))
	}
	return l
}

// noNumbers are octets of no number: laid down longer than it need be, of more than 64 bits, and cut.
func noNumbers() []string {
	nine := strings.Repeat("\xff", 9)
	return []string{"\x80\x00", "\x81\x00", "\x81\x80\x00", "\xff\x00", "\x80\x80\x80\x00", nine + "\x00", nine + "\x02", nine + "\x7f", nine + "\x80", nine + "\xff", nine + "\x81\x00", nine + "\x80\x80\x01", strings.Repeat("\x80", 9) + "\x02", strings.Repeat("\x80", 30)}
}

func TestReadOfAKindAFromAndATo(t *testing.T) {
	for _, m := range some() {
		for kind := range 256 {
			wantReadLikeSlow(t, withPiece(m, 0, num(uint64(kind))))
			wantReadLikeSlow(t, withPiece(m, 1, num(uint64(kind))))
			wantReadLikeSlow(t, withPiece(m, 2, num(uint64(kind))))
		}
		wantNoForm(t, withPiece(m, 0, "\x00"))
		for _, x := range append(badNumbers(12), noNumbers()...) {
			wantNoForm(t, withPiece(m, 0, x))
		}
		for _, x := range append(badNumbers(63), noNumbers()...) {
			wantNoForm(t, withPiece(m, 1, x))
			wantNoForm(t, withPiece(m, 2, x))
		}
		wantNoForm(t, withPiece(m, 1, num(uint64(m.To))))
		wantNoForm(t, withPiece(m, 2, num(uint64(m.From))))
		octets := withPiece(m, 1, "\x05")
		m.From = 5
		wantRead(t, sealed(octets), m)
	}
}

// eachPart calls f with each part of some messages, and where it stands among its pieces.
func eachPart(f func(m api.Msg, at int, part string)) {
	for _, m := range some() {
		for i, part := range has[m.Kind] {
			f(m, 3+i, part)
		}
	}
}

func TestReadOfNumbersThatAreNone(t *testing.T) {
	eachPart(func(m api.Msg, at int, _ string) {
		for _, x := range noNumbers() {
			wantNoForm(t, withPiece(m, at, x))
			wantNoForm(t, withPiece(m, at, x+pieces(m)[at]))
		}
	})
}

func TestReadOfNumbersThatAreTooGreat(t *testing.T) {
	greatestOf := map[string]struct {
		n uint64
		v value
	}{"Who": {63, whoOf(63, true)}, "Asked": {1 << 40, askedOf(last, true)}, "Good": {1, goodOf(true)}}
	eachPart(func(m api.Msg, at int, part string) {
		limit, there := greatestOf[part]
		if !there {
			return
		}
		wantRead(t, sealed(withPiece(m, at, num(limit.n))), limit.v.with(m))
		for _, x := range badNumbers(limit.n) {
			wantNoForm(t, withPiece(m, at, x))
		}
	})
}

func TestReadOfAGoodThatIsNeither(t *testing.T) {
	o := "\x0c\x02\x00\x01a\x07"
	wantRead(t, sealed(o+"\x00"), api.Msg{Kind: api.DoneM, From: 2, Task: "a", Token: 7})
	wantRead(t, sealed(o+"\x01"), api.Msg{Kind: api.DoneM, From: 2, Task: "a", Token: 7, Good: true})
	for n := uint64(2); n < 300; n++ {
		wantNoForm(t, o+num(n))
	}
	for _, x := range noNumbers() {
		wantNoForm(t, o+x)
	}
}

func TestReadOfAKThatMayNotBe(t *testing.T) {
	states := []string{"\x04", "\x05", "\x7f", "\x80\x01", "\x80\x02", num(1 << 32), num(1<<32 + 1), num(1 << 63), num(greatest), "\x80\x00", "\x83\x00"}
	for _, state := range states {
		for _, inc := range []string{"\x00", "\x07", maxOctets} {
			k := inc + state
			wantNoForm(t, "\x01\x00\x01\x07"+k+"\x00")
			wantNoForm(t, "\x03\x00\x01\x07\x02"+k+"\x00")
			for _, n := range []int{1, 2, 8} {
				for at := range n {
					l := strings.Repeat("\x09\x07\x01", at) + "\x09" + k + strings.Repeat("\x09\x07\x01", n-1-at)
					wantNoForm(t, "\x01\x00\x01\x07\x00\x00"+num(uint64(n))+l)
					wantNoForm(t, "\x02\x00\x01\x07\x02"+num(uint64(n))+l)
				}
			}
			for _, n := range []int{1, 2, 64} {
				for at := range n {
					l := strings.Repeat("\x07\x01", at) + k + strings.Repeat("\x07\x01", n-1-at)
					wantNoForm(t, "\x05\x00\x01"+num(uint64(n))+l)
					wantNoForm(t, "\x06\x00\x01"+num(uint64(n))+l)
				}
			}
		}
	}
}

func TestReadOfNewsOfANodeThatIsNone(t *testing.T) {
	for _, who := range append(badNumbers(63), noNumbers()...) {
		for _, n := range []int{1, 2, 8} {
			for at := range n {
				l := strings.Repeat("\x3f\x07\x01", at) + who + "\x07\x01" + strings.Repeat("\x3f\x07\x01", n-1-at)
				wantNoForm(t, "\x01\x00\x01\x07\x00\x00"+num(uint64(n))+l)
				wantNoForm(t, "\x02\x00\x01\x07\x02"+num(uint64(n))+l)
				wantNoForm(t, "\x03\x00\x01\x07\x02\x00\x00"+num(uint64(n))+l)
			}
		}
	}
}

func TestReadOfMoreNewsThanMayBe(t *testing.T) {
	for _, ahead := range []string{"\x01\x00\x01\x07\x00\x00", "\x02\x00\x01\x07\x02", "\x03\x00\x01\x07\x02\x00\x00"} {
		for n := range 30 {
			octets := ahead + num(uint64(n)) + strings.Repeat("\x05\x07\x01", n)
			wantReadLikeSlow(t, octets)
			if n > 8 {
				wantNoForm(t, octets)
			}
			// As many, but one more, or one less, is there.
			wantNoForm(t, ahead+num(uint64(n))+strings.Repeat("\x05\x07\x01", n+1))
			if n > 0 {
				wantNoForm(t, ahead+num(uint64(n))+strings.Repeat("\x05\x07\x01", n-1))
			}
		}
		for _, n := range badNumbers(8) {
			wantNoForm(t, ahead+n)
			wantNoForm(t, ahead+n+strings.Repeat("\x05\x07\x01", 9))
			wantNoForm(t, ahead+n+strings.Repeat("\x05\x07\x01", 1000))
		}
	}
}

func TestReadOfALongerTableThanMayBe(t *testing.T) {
	for _, ahead := range []string{"\x05\x00\x01", "\x06\x00\x01"} {
		wantNoForm(t, ahead+"\x00")
		for n := range 150 {
			octets := ahead + num(uint64(n)) + strings.Repeat("\x07\x01", n)
			wantReadLikeSlow(t, octets)
			if n > 64 {
				wantNoForm(t, octets)
			}
			wantNoForm(t, ahead+num(uint64(n))+strings.Repeat("\x07\x01", n+1))
			if n > 0 {
				wantNoForm(t, ahead+num(uint64(n))+strings.Repeat("\x07\x01", n-1))
			}
		}
		for _, n := range badNumbers(64) {
			wantNoForm(t, ahead+n)
			wantNoForm(t, ahead+n+strings.Repeat("\x07\x01", 65))
			wantNoForm(t, ahead+n+strings.Repeat("\x07\x01", 2000))
		}
	}
}

func TestReadOfATaskThatIsNoName(t *testing.T) {
	frames := [][2]string{{"\x0b\x00\x01\x03\x02\x09", "\x07"}, {"\x0c\x00\x01", "\x07\x01"}}
	for _, f := range frames {
		for _, s := range goodNames {
			m, ok := slowRead(f[0] + num(uint64(len(s))) + s + f[1])
			if !ok || m.Task != s {
				t.Fatalf("the test's own read of %q: %v", s, m)
			}
			wantRead(t, sealed(f[0]+num(uint64(len(s)))+s+f[1]), m)
			// One octet more, or less, than it is told to have.
			wantNoForm(t, f[0]+num(uint64(len(s)+1))+s)
			wantNoForm(t, f[0]+num(uint64(len(s)))+s)
		}
		for _, s := range append(badNames, strings.Repeat("a", 4000)) {
			// One that is longer would be too large to be sealed.
			if len(s) <= 4000 {
				wantNoForm(t, f[0]+num(uint64(len(s)))+s+f[1])
			}
		}
		for o := range 256 {
			c := string([]byte{byte(o)})
			wantReadLikeSlow(t, f[0]+"\x01"+c+f[1])
			wantReadLikeSlow(t, f[0]+"\x03a"+c+"-"+f[1])
			wantReadLikeSlow(t, f[0]+"\x14"+strings.Repeat("7", 19)+c+f[1])
		}
		for _, n := range badNumbers(20) {
			wantNoForm(t, f[0]+n)
			wantNoForm(t, f[0]+n+strings.Repeat("a", 20)+f[1])
			wantNoForm(t, f[0]+n+strings.Repeat("a", 300)+f[1])
		}
		for _, x := range noNumbers() {
			wantNoForm(t, f[0]+x+"a"+f[1])
		}
	}
}

func TestReadOfOnePartTooFew(t *testing.T) {
	for _, m := range some() {
		l := pieces(m)
		wantNoForm(t, strings.Join(l[:len(l)-1], ""))
		wantNoForm(t, strings.Join(l[:3], ""))
		wantNoForm(t, strings.Join(l[:2], ""))
		wantNoForm(t, l[0])
		for at := range l {
			wantReadLikeSlow(t, withPiece(m, at, ""))
		}
	}
}

func TestReadOfOctetsBehindTheLastPart(t *testing.T) {
	for _, m := range some() {
		o := octetsOf(m)
		for x := range 256 {
			wantNoForm(t, o+string([]byte{byte(x)}))
		}
		for _, behind := range []string{"\x00\x00", "\x80", "\x80\x00", "a-", o, sealed(o), sealed("")} {
			wantNoForm(t, o+behind)
		}
	}
}

// What stands elsewhere than the chapter's table says is no message, or another one.
func TestReadOfPartsInAnotherOrder(t *testing.T) {
	for _, m := range some() {
		l := pieces(m)
		for i := range l {
			for j := range i {
				x := but(but(l, i, l[j]), j, l[i])
				wantReadLikeSlow(t, strings.Join(x, ""))
			}
		}
	}
}

// Each octet of a message's is turned into each other one, taken away, and put in.
func TestReadOfOctetsThatDifferInOne(t *testing.T) {
	r := rand.New(rand.NewSource(seed))
	for _, m := range some() {
		o := octetsOf(m)
		step := 1 + len(o)/40
		for at := 0; at < len(o); at += 1 + r.Intn(step) {
			for x := 0; x < 256; x += 1 + r.Intn(7) {
				c := string([]byte{byte(x)})
				wantReadLikeSlow(t, o[:at]+c+o[at+1:])
				wantReadLikeSlow(t, o[:at]+c+o[at:])
			}
			wantReadLikeSlow(t, o[:at]+o[at+1:])
		}
	}
}

// Octets of each kind, drawn of few, so that some of them are messages.
func TestReadOfDrawnOctets(t *testing.T) {
	r := rand.New(rand.NewSource(seed))
	read := [13]int{}
	for range 150000 {
		b := []byte{byte(1 + r.Intn(12)), "\x00\x01\x3f\x40"[r.Intn(4)], "\x02\x03\x00\x80"[r.Intn(4)]}
		for range 1 + r.Intn(7) {
			b = append(b, "\x00\x00\x01\x01\x02\x04\x80-"[r.Intn(8)])
		}
		wantReadLikeSlow(t, string(b))
		if _, ok := slowRead(string(b)); ok {
			read[b[0]]++
		}
	}
	for kind := firstKind; kind <= lastKind; kind++ {
		if read[kind] < 10 {
			t.Errorf("of kind %d only %d were drawn that may be", kind, read[kind])
		}
	}
}

// All texts of up to six octets of few, sealed, behind each kind.
func TestReadOfAllShortOctets(t *testing.T) {
	var readAll func(s string, left int)
	readAll = func(s string, left int) {
		wantReadLikeSlow(t, s)
		if left == 0 {
			return
		}
		for _, c := range []string{"\x00", "\x01", "\x80", "a"} {
			readAll(s+c, left-1)
		}
	}
	for kind := range 14 {
		readAll(num(uint64(kind)), 6)
	}
}
