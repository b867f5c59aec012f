package fnv

import (
	library "hash/fnv"
	"math"
	"math/big"
	"math/rand"
	"slices"
	"strings"
	"testing"
)

// The tests' draws are from this seed, so that a failure comes again.
const seed = 1

// nothing is the sum of nothing, as the chapter tells it.
const nothing = 0xcbf29ce484222325

// sumCases are texts and their sums, as they are known of FNV-1a.
var sumCases = []struct {
	text string
	sum  uint64
}{
	{"", nothing},
	{"a", 0xaf63dc4c8601ec8c},
	{"b", 0xaf63df4c8601f1a5},
	{"fo", 0x08985907b541d342},
	{"foo", 0xdcb27518fed9d577},
	{"foob", 0xdd120e790c2512af},
	{"fooba", 0xcac165afa2fef40a},
	{"foobar", 0x85944171f73967e8},
	{"\x00", 0xaf63bd4c8601b7df},
	{"chongo was here!\n", 0x46810940eff5f915},
	// A sum may be 0.
	{"\xd5\x6b\xb9\x53\x42\x87\x08\x36", 0},
}

// edgeNumbers are the numbers that a sum may begin from, at the edges.
var edgeNumbers = []uint64{0, 1, 2, 255, 256, nothing, math.MaxUint32, 1 << 32, 1<<63 - 1, 1 << 63, 1<<63 + 1, math.MaxUint64 - 1, math.MaxUint64}

// someTexts are texts of every kind: empty, of one octet, of octets 0 and 255 alone, no valid UTF-8, and long ones.
func someTexts() []string {
	l := []string{
		"", "a", "b", "ab", "ba", "job-1", "foobar",
		"\x00", "\x00\x00", "\x00\x00\x00\x00\x00\x00\x00\x00\x00",
		"\xff", "\xff\xff", "\xff\xff\xff\xff\xff\xff\xff\xff\xff",
		"\x00\xff", "\xff\x00", "a\x00", "\x00a", "\x7f\x80",
		"\x80", "\xc0\xaf", "\xe2\x82", "a\xffb", "\xed\xa0\x80", "\xf4\x90\x80\x80", "é", "世界", "\ufffd",
		strings.Repeat("\x00", 700), strings.Repeat("\xff", 700), strings.Repeat("ab\x00\xff", 300),
	}
	r := rand.New(rand.NewSource(seed))
	for _, n := range []int{3, 7, 8, 9, 16, 63, 64, 65, 255, 256, 257, 999} {
		l = append(l, drawn(r, n))
	}
	return l
}

// drawn is so many octets.
func drawn(r *rand.Rand, n int) string {
	b := make([]byte, n)
	r.Read(b)
	return string(b)
}

// modulus is 2^64.
func modulus() *big.Int { return new(big.Int).Lsh(big.NewInt(1), 64) }

// slowOn is what h comes to by s, as the chapter tells it, in numbers without a bound: of h its lowest eight bits alone are turned.
func slowOn(h uint64, s string) uint64 {
	n := new(big.Int).SetUint64(h)
	for _, o := range []byte(s) {
		for bit := range 8 {
			n.SetBit(n, bit, n.Bit(bit)^uint(o>>bit&1))
		}
		n.Mul(n, big.NewInt(1099511628211))
		n.Mod(n, modulus())
	}
	return n.Uint64()
}

// slowBack is the number that comes to h by s: each factor is undone by its inverse, which the library finds.
func slowBack(h uint64, s string) uint64 {
	undoing := new(big.Int).ModInverse(big.NewInt(1099511628211), modulus())
	n := new(big.Int).SetUint64(h)
	for i := len(s) - 1; i >= 0; i-- {
		n.Mul(n, undoing)
		n.Mod(n, modulus())
		n.Xor(n, big.NewInt(int64(s[i])))
	}
	return n.Uint64()
}

// librarySum is the library's own sum of texts.
func librarySum(l ...string) uint64 {
	h := library.New64a()
	for _, s := range l {
		h.Write([]byte(s))
	}
	return h.Sum64()
}

// inEveryCut tells each way in which s may be cut into texts that are not empty.
func inEveryCut(s string, tell func(l []string)) {
	for cuts := range 1 << max(0, len(s)-1) {
		var l []string
		from := 0
		for at := 1; at < len(s); at++ {
			if cuts>>(at-1)&1 == 1 {
				l = append(l, s[from:at])
				from = at
			}
		}
		tell(append(l, s[from:]))
	}
}

// withEmpty is l with an empty text at its beginning, at its end, and between any two of its texts.
func withEmpty(l []string) []string {
	then := []string{""}
	for _, s := range l {
		then = append(then, s, "")
	}
	return then
}

// but is s with something else at a place.
func but(s string, at int, o byte) string {
	b := []byte(s)
	b[at] = o
	return string(b)
}

func wantSum(t *testing.T, want uint64, l ...string) {
	t.Helper()
	if h := Sum(l...); h != want {
		t.Errorf("Sum of %d texts (%.40q): %x; want %x", len(l), l[:min(len(l), 12)], h, want)
	}
}

func wantOn(t *testing.T, h uint64, s string, want uint64) {
	t.Helper()
	if n := On(h, s); n != want {
		t.Errorf("On(%x, %.40q): %x; want %x", h, s, n, want)
	}
}

func wantBack(t *testing.T, h uint64, s string, want uint64) {
	t.Helper()
	if n := Back(h, s); n != want {
		t.Errorf("Back(%x, %.40q): %x; want %x", h, s, n, want)
	}
}

// The chapter's examples

func TestExamples(t *testing.T) {
	wantSum(t, 0xcbf29ce484222325)
	wantSum(t, 0xaf63dc4c8601ec8c, "a")
	wantBack(t, 0xaf63dc4c8601ec8c, "a", 0xcbf29ce484222325)
}

// P12.1

func TestSumOfTexts(t *testing.T) {
	for _, c := range sumCases {
		wantSum(t, c.sum, c.text)
		wantOn(t, nothing, c.text, c.sum)
	}
}

func TestSumOfNothing(t *testing.T) {
	wantSum(t, nothing)
	wantSum(t, nothing, []string(nil)...)
	wantSum(t, nothing, []string{}...)
	wantSum(t, nothing, "")
	wantSum(t, nothing, "", "")
	wantSum(t, nothing, make([]string, 1000)...)
}

func TestSumOfSeveral(t *testing.T) {
	const foobar = 0x85944171f73967e8
	wantSum(t, foobar, "foo", "bar")
	wantSum(t, foobar, "", "foobar")
	wantSum(t, foobar, "foobar", "")
	wantSum(t, foobar, "", "foo", "", "", "bar", "")
	wantSum(t, foobar, "f", "o", "o", "b", "a", "r")
	// Texts that are the same are not one, and their order tells.
	wantSum(t, librarySum("foofoo"), "foo", "foo")
	wantSum(t, librarySum("barfoo"), "bar", "foo")
	if Sum("bar", "foo") == foobar || Sum("foo", "foo") == Sum("foo") {
		t.Error("texts' sum is one of other octets")
	}
}

func TestSumInEveryCut(t *testing.T) {
	for _, s := range []string{"", "a", "ab", "foobar", "\x00\x00\x00\x00", "\xff\xff\xff\xff\xff", "a\x00\xffé世", "0123456789"} {
		want := librarySum(s)
		ways := 0
		inEveryCut(s, func(l []string) {
			ways++
			wantSum(t, want, l...)
			wantSum(t, want, withEmpty(l)...)
		})
		if ways != 1<<max(0, len(s)-1) {
			t.Errorf("%q was cut in %d ways", s, ways)
		}
	}
}

func TestSumOfEachOctet(t *testing.T) {
	for o := range 256 {
		s := string([]byte{byte(o)})
		wantSum(t, librarySum(s), s)
		wantSum(t, slowOn(nothing, s), s)
	}
}

func TestSumOfOneOctetAgainAndAgain(t *testing.T) {
	for _, o := range []string{"\x00", "\xff", "\x7f", "\x80"} {
		for n := range 600 {
			s := strings.Repeat(o, n)
			wantSum(t, librarySum(s), s)
		}
	}
}

func TestSumOfEveryKind(t *testing.T) {
	for _, s := range someTexts() {
		wantSum(t, librarySum(s), s)
		wantSum(t, slowOn(nothing, s), s)
		wantSum(t, librarySum(s+s), s, s)
	}
	wantSum(t, librarySum(someTexts()...), someTexts()...)
}

func TestSumOfDrawn(t *testing.T) {
	r := rand.New(rand.NewSource(seed))
	for range 3000 {
		var l []string
		for range r.Intn(6) {
			l = append(l, drawn(r, r.Intn(40)))
		}
		wantSum(t, librarySum(l...), l...)
	}
}

func TestSumOfMuch(t *testing.T) {
	r := rand.New(rand.NewSource(seed))
	s := drawn(r, 1<<20)
	want := librarySum(s)
	wantSum(t, want, s)
	var l []string
	for i := range len(s) {
		l = append(l, s[i:i+1])
	}
	wantSum(t, want, l...)
}

func TestOnAtEdges(t *testing.T) {
	for _, h := range edgeNumbers {
		wantOn(t, h, "", h)
		for _, s := range someTexts() {
			wantOn(t, h, s, slowOn(h, s))
		}
	}
}

func TestOnOfEachOctet(t *testing.T) {
	for _, h := range edgeNumbers {
		for o := range 256 {
			s := string([]byte{byte(o)})
			wantOn(t, h, s, slowOn(h, s))
		}
	}
}

func TestOnOfNumbersKnown(t *testing.T) {
	// Octets 0 leave 0 as it is; of any number the lowest eight bits are turned, and no others.
	wantOn(t, 0, strings.Repeat("\x00", 1000), 0)
	wantOn(t, 0, "\x01", 0x100000001b3)
	wantOn(t, 1, "\x00", 0x100000001b3)
	wantOn(t, 1, "\x01", 0)
	wantOn(t, 255, "\xff", 0)
	wantOn(t, 256, "\xff", 0x1ff000003644d)
	wantOn(t, 256, "\x00", 0x100000001b300)
	wantOn(t, 1<<63, "\x00", 1<<63)
	wantOn(t, math.MaxUint64, "\x00", math.MaxUint64-0x100000001b3+1)
	wantOn(t, math.MaxUint64, "\xff", 0xfffefffffffe4d00)
}

func TestOnOfDrawn(t *testing.T) {
	r := rand.New(rand.NewSource(seed))
	for range 1000 {
		h, s := r.Uint64(), drawn(r, r.Intn(40))
		wantOn(t, h, s, slowOn(h, s))
	}
}

// P12.2

func TestBackOfSums(t *testing.T) {
	for _, c := range sumCases {
		wantBack(t, c.sum, c.text, nothing)
	}
}

func TestBackAtEdges(t *testing.T) {
	for _, h := range edgeNumbers {
		wantBack(t, h, "", h)
		for _, s := range someTexts() {
			wantBack(t, h, s, slowBack(h, s))
		}
	}
}

func TestBackOfEachOctet(t *testing.T) {
	for _, h := range edgeNumbers {
		for o := range 256 {
			s := string([]byte{byte(o)})
			wantBack(t, h, s, slowBack(h, s))
		}
	}
}

func TestBackOfNumbersKnown(t *testing.T) {
	wantBack(t, 0, strings.Repeat("\x00", 1000), 0)
	wantBack(t, 0, "\x01", 1)
	wantBack(t, 0, "\xff", 255)
	wantBack(t, 0x100000001b3, "\x00", 1)
	wantBack(t, 0x100000001b3, "\x01", 0)
	wantBack(t, 1<<63, "\x00", 1<<63)
	wantBack(t, 1<<63, "\xff", 1<<63+255)
	wantBack(t, 0xfffefffffffe4d00, "\xff", math.MaxUint64)
}

func TestBackOfDrawn(t *testing.T) {
	r := rand.New(rand.NewSource(seed))
	for range 1000 {
		h, s := r.Uint64(), drawn(r, r.Intn(40))
		wantBack(t, h, s, slowBack(h, s))
	}
}

// The octets go back in the order in which they came, the last one first.
func TestBackOfTextsOneBehindTheOther(t *testing.T) {
	for _, h := range edgeNumbers {
		for _, a := range someTexts() {
			for _, b := range []string{"", "a", "\x00", "\xff\xfe", "foobar"} {
				wantBack(t, h, a+b, Back(Back(h, b), a))
			}
		}
	}
	if Back(nothing, "ab") == Back(nothing, "ba") {
		t.Error("Back asks for no order")
	}
}

// P12.3

// wantUndone says that On and Back of a number by a text undo one another.
func wantUndone(t *testing.T, h uint64, s string) {
	t.Helper()
	wantBack(t, On(h, s), s, h)
	wantOn(t, Back(h, s), s, h)
}

func TestOnAndBackUndoOneAnother(t *testing.T) {
	for _, h := range edgeNumbers {
		for _, s := range someTexts() {
			wantUndone(t, h, s)
		}
		for o := range 256 {
			wantUndone(t, h, string([]byte{byte(o)}))
		}
	}
}

func TestOnAndBackOfDrawnUndoOneAnother(t *testing.T) {
	r := rand.New(rand.NewSource(seed))
	for range 5000 {
		wantUndone(t, r.Uint64(), drawn(r, r.Intn(60)))
	}
	for range 20 {
		wantUndone(t, r.Uint64(), drawn(r, 1<<14))
	}
}

func TestBackOfASumIsTheSumOfNothing(t *testing.T) {
	for _, s := range someTexts() {
		wantBack(t, Sum(s), s, Sum())
		wantBack(t, Sum("former", s), s, Sum("former"))
	}
}

func TestOneOctetTells(t *testing.T) {
	for _, s := range someTexts() {
		if s == "" {
			continue
		}
		h := Sum(s)
		for _, at := range []int{0, len(s) / 2, len(s) - 1} {
			for o := range 256 {
				other := but(s, at, byte(o))
				if same := Sum(other) == h; same != (other == s) {
					t.Errorf("Sum(%.40q) with octet %d at %d: the same is %t", s, o, at, same)
				}
			}
		}
	}
}

func TestOneOctetTellsAtEachPlace(t *testing.T) {
	r := rand.New(rand.NewSource(seed))
	for range 20 {
		s := drawn(r, 1+r.Intn(80))
		for at := range len(s) {
			seen := map[uint64]bool{}
			for o := range 256 {
				seen[Sum(but(s, at, byte(o)))] = true
			}
			if len(seen) != 256 {
				t.Errorf("Sum(%q) by 256 octets at %d: %d sums", s, at, len(seen))
			}
		}
	}
}

func TestOneOctetTellsFromEachNumber(t *testing.T) {
	for _, h := range edgeNumbers {
		on, back := map[uint64]bool{}, map[uint64]bool{}
		for o := range 256 {
			s := but("before\x00behind", 6, byte(o))
			on[On(h, s)], back[Back(h, s)] = true, true
		}
		if len(on) != 256 || len(back) != 256 {
			t.Errorf("from %x by 256 octets: %d and %d numbers", h, len(on), len(back))
		}
	}
}

func TestSumOfOneBehindAnother(t *testing.T) {
	for _, a := range someTexts() {
		for _, b := range someTexts() {
			both := Sum(a + b)
			wantOn(t, Sum(a), b, both)
			wantSum(t, both, a, b)
			wantBack(t, both, b, Sum(a))
		}
	}
}

// R2 to R4

func TestListStaysAsItWas(t *testing.T) {
	l := make([]string, 0, 100)
	l = append(l, someTexts()...)
	was := slices.Clone(l)
	beyond := l[:cap(l)]
	for i := len(l); i < cap(l); i++ {
		beyond[i] = "beyond"
	}
	h := Sum(l...)
	if !slices.Equal(l, was) {
		t.Error("Sum changed what was handed in")
	}
	for i, s := range beyond[len(l):] {
		if s != "beyond" {
			t.Errorf("Sum changed text %d beyond the list", i)
		}
	}
	// And the list may be changed behind the call: nothing of it is kept.
	l[0] = "other"
	wantSum(t, h, was...)
}

func TestCallsAnswerTheSameAgain(t *testing.T) {
	for _, s := range someTexts() {
		sum, on, back := Sum(s), On(7, s), Back(7, s)
		for range 3 {
			wantSum(t, sum, s)
			wantOn(t, 7, s, on)
			wantBack(t, 7, s, back)
		}
	}
}
