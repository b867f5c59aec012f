package wire

import (
	"math/rand"
	"strings"
	"testing"

	"tattle/api"
)

// The tests' draws are from this seed, so that a failure comes again.
const seed = 1

// numCases are numbers and their octets: both sides of each group's edge.
var numCases = []struct {
	n      uint64
	octets string
}{
	{0, "\x00"},
	{1, "\x01"},
	{127, "\x7f"},
	{128, "\x80\x01"},
	{255, "\xff\x01"},
	{300, "\xac\x02"},
	{1<<14 - 1, "\xff\x7f"},
	{1 << 14, "\x80\x80\x01"},
	{1<<21 - 1, "\xff\xff\x7f"},
	{1 << 21, "\x80\x80\x80\x01"},
	{1<<32 - 1, "\xff\xff\xff\xff\x0f"},
	{1 << 32, "\x80\x80\x80\x80\x10"},
	{1<<56 - 1, "\xff\xff\xff\xff\xff\xff\xff\x7f"},
	{1 << 56, "\x80\x80\x80\x80\x80\x80\x80\x80\x01"},
	{1<<63 - 1, "\xff\xff\xff\xff\xff\xff\xff\xff\x7f"},
	{1 << 63, "\x80\x80\x80\x80\x80\x80\x80\x80\x80\x01"},
	{1<<64 - 1, "\xff\xff\xff\xff\xff\xff\xff\xff\xff\x01"},
}

// spoilt is text with the bits of pattern turned from bit on, the lowest of each octet first; false, if one of them is beyond the text.
func spoilt(text string, bit int, pattern uint32) (string, bool) {
	b := []byte(text)
	for i := range 32 {
		if pattern>>i&1 == 0 {
			continue
		}
		if (bit+i)/8 >= len(b) {
			return "", false
		}
		b[(bit+i)/8] ^= 1 << ((bit + i) % 8)
	}
	return string(b), true
}

// slowSum is the sum as the chapter tells it, bit by bit.
func slowSum(s string) uint32 {
	r := uint32(0xffffffff)
	for _, o := range []byte(s) {
		r ^= uint32(o)
		for range 8 {
			fell := r & 1
			r /= 2
			if fell == 1 {
				r ^= 0xedb88320
			}
		}
	}
	return ^r
}

// drawn is so many octets.
func drawn(r *rand.Rand, n int) string {
	b := make([]byte, n)
	r.Read(b)
	return string(b)
}

func wantNum(t *testing.T, s string, at int, n uint64, next int, want api.Errno) {
	t.Helper()
	if m, p, e := TakeNum(s, at); m != n || p != next || e != want {
		t.Errorf("TakeNum(%x, %d): %d, %d, %d; want %d, %d, %d", s, at, m, p, e, n, next, want)
	}
}

func wantText(t *testing.T, s string, at int, text string, next int, want api.Errno) {
	t.Helper()
	if x, p, e := TakeText(s, at); x != text || p != next || e != want {
		t.Errorf("TakeText(%.16x, %d): %q, %d, %d; want %q, %d, %d", s, at, x, p, e, text, next, want)
	}
}

func wantOpen(t *testing.T, s, text string, want api.Errno) {
	t.Helper()
	if x, e := Open(s); x != text || e != want {
		t.Errorf("Open of %d octets: %.16x, %d; want %.16x, %d", len(s), x, e, text, want)
	}
}

// P1.1

func TestNumLaysOctets(t *testing.T) {
	for _, c := range numCases {
		if got := Num(c.n); got != c.octets {
			t.Errorf("Num(%d): %x; want %x", c.n, got, c.octets)
		}
	}
}

func TestNumOfNoneAndOfSeveral(t *testing.T) {
	if got := Num(); got != "" {
		t.Errorf("Num of none: %x", got)
	}
	var all []uint64
	want := ""
	for _, c := range numCases {
		all = append(all, c.n)
		want += c.octets
	}
	if got := Num(all...); got != want {
		t.Errorf("Num of several: %x; want %x", got, want)
	}
	for i, c := range numCases {
		if all[i] != c.n {
			t.Errorf("Num changed number %d to %d", i, all[i])
		}
	}
}

func TestTakeNumTakes(t *testing.T) {
	for _, c := range numCases {
		wantNum(t, c.octets, 0, c.n, len(c.octets), api.OK)
		wantNum(t, "\xff\x00"+c.octets+"\x80\x00", 2, c.n, 2+len(c.octets), api.OK)
	}
}

func TestTakeNumAtPlaces(t *testing.T) {
	for _, at := range []int{-1 << 63, -1 << 32, -2, -1, 4, 5, 1 << 32, 1<<63 - 1} {
		wantNum(t, "abc", at, 0, 0, api.ErrArg)
	}
	wantNum(t, "abc", 2, 'c', 3, api.OK)
	wantNum(t, "abc", 3, 0, 0, api.ErrShort)
	wantNum(t, "", -1, 0, 0, api.ErrArg)
	wantNum(t, "", 0, 0, 0, api.ErrShort)
	wantNum(t, "", 1, 0, 0, api.ErrArg)
	// Where it is nowhere, what stands there is not asked.
	wantNum(t, "\x80\x00", 3, 0, 0, api.ErrArg)
}

func TestTakeNumThatEndsInZero(t *testing.T) {
	wantNum(t, "\x00", 0, 0, 1, api.OK)
	wantNum(t, "\x00\x00", 0, 0, 1, api.OK)
	for ahead := 1; ahead <= 9; ahead++ {
		wantNum(t, strings.Repeat("\x80", ahead)+"\x00", 0, 0, 0, api.ErrForm)
		wantNum(t, "x"+strings.Repeat("\xff", ahead)+"\x00\x01", 1, 0, 0, api.ErrForm)
	}
}

func TestTakeNumOfTenOctets(t *testing.T) {
	nine := strings.Repeat("\xff", 9)
	wantNum(t, nine+"\x01", 0, 1<<64-1, 10, api.OK)
	wantNum(t, nine+"\x7f", 1, 1<<63-1, 10, api.OK)
	for last := range 256 {
		if last == 1 {
			continue
		}
		tenth := string([]byte{byte(last)})
		wantNum(t, nine+tenth, 0, 0, 0, api.ErrForm)
		wantNum(t, nine+tenth+"\x01", 0, 0, 0, api.ErrForm)
		wantNum(t, strings.Repeat("\x80", 9)+tenth, 0, 0, 0, api.ErrForm)
	}
	wantNum(t, strings.Repeat("\x80", 1000), 0, 0, 0, api.ErrForm)
}

func TestTakeNumCutOff(t *testing.T) {
	for _, c := range numCases {
		for cut := range len(c.octets) {
			wantNum(t, c.octets[:cut], 0, 0, 0, api.ErrShort)
			wantNum(t, "xy"+c.octets[:cut], 2, 0, 0, api.ErrShort)
		}
	}
	wantNum(t, strings.Repeat("\x80", 9), 0, 0, 0, api.ErrShort)
}

// P1.2

func TestTextLaysOctets(t *testing.T) {
	for _, c := range []struct{ text, ahead string }{
		{"", "\x00"},
		{"a", "\x01"},
		{"\x00\xff", "\x02"},
		{strings.Repeat("x", 127), "\x7f"},
		{strings.Repeat("x", 128), "\x80\x01"},
		{strings.Repeat("x", 200), "\xc8\x01"},
	} {
		if got, e := Text(c.text); got != c.ahead+c.text || e != api.OK {
			t.Errorf("Text of %d octets: %x, %d", len(c.text), got, e)
		}
	}
}

func TestTextOfTooMuch(t *testing.T) {
	for _, n := range []int{201, 256, 1 << 16} {
		if got, e := Text(strings.Repeat("x", n)); got != "" || e != api.ErrLarge {
			t.Errorf("Text of %d octets: %d octets, %d", n, len(got), e)
		}
	}
}

func TestTakeTextTakes(t *testing.T) {
	wantText(t, "\x00", 0, "", 1, api.OK)
	wantText(t, "\x00abc", 0, "", 1, api.OK)
	wantText(t, "\x03abc", 0, "abc", 4, api.OK)
	wantText(t, "??\x03abc!", 2, "abc", 6, api.OK)
	long := strings.Repeat("x", 200)
	wantText(t, "\xc8\x01"+long, 0, long, 202, api.OK)
	wantText(t, "\xc8\x01"+long+"y", 0, long, 202, api.OK)
}

func TestTakeTextOfNoNumber(t *testing.T) {
	wantText(t, "\x01a", -1, "", 0, api.ErrArg)
	wantText(t, "\x01a", 3, "", 0, api.ErrArg)
	wantText(t, "\x01a", 1<<63-1, "", 0, api.ErrArg)
	wantText(t, "\x01a", 2, "", 0, api.ErrShort)
	wantText(t, "", 0, "", 0, api.ErrShort)
	wantText(t, "\x80", 0, "", 0, api.ErrShort)
	wantText(t, "\x80\x00", 0, "", 0, api.ErrForm)
	wantText(t, strings.Repeat("\xff", 9)+"\x02", 0, "", 0, api.ErrForm)
}

func TestTakeTextOfTooMuch(t *testing.T) {
	wantText(t, "\xc9\x01"+strings.Repeat("x", 201), 0, "", 0, api.ErrLarge)
	// Too much is told ahead of too short, however great it is.
	for _, n := range []uint64{201, 1 << 31, 1<<63 - 1, 1 << 63, 1<<64 - 201, 1<<64 - 1} {
		wantText(t, Num(n), 0, "", 0, api.ErrLarge)
		wantText(t, "x"+Num(n)+"abc", 1, "", 0, api.ErrLarge)
	}
}

func TestTakeTextCutOff(t *testing.T) {
	for _, n := range []int{1, 3, 127, 128, 200} {
		x, _ := Text(strings.Repeat("x", n))
		for cut := range len(x) {
			wantText(t, x[:cut], 0, "", 0, api.ErrShort)
			wantText(t, "abc"+x[:cut], 3, "", 0, api.ErrShort)
		}
	}
}

// P1.3

func TestSumOfTexts(t *testing.T) {
	for s, want := range map[string]uint32{
		"":                 0,
		"a":                0xe8b7be43,
		"123456789":        0xcbf43926,
		"\x00\x00\x00\x00": 0x2144df1c,
		"\xff\xff\xff\xff": 0xffffffff,
		"The quick brown fox jumps over the lazy dog": 0x414fa339,
	} {
		if got := Sum(s); got != want {
			t.Errorf("Sum(%q): %x; want %x", s, got, want)
		}
	}
}

func TestSumIsThatOfItsWords(t *testing.T) {
	for o := range 256 {
		s := string([]byte{byte(o)})
		if Sum(s) != slowSum(s) || Sum("x"+s) != slowSum("x"+s) {
			t.Errorf("Sum of octet %d: %x; want %x", o, Sum(s), slowSum(s))
		}
	}
	r := rand.New(rand.NewSource(seed))
	for _, n := range []int{2, 3, 4, 5, 31, 200, 4096, 4097, 10000} {
		if s := drawn(r, n); Sum(s) != slowSum(s) {
			t.Errorf("Sum of %d octets: %x; want %x", n, Sum(s), slowSum(s))
		}
	}
}

func TestSealPutsTheSumBehind(t *testing.T) {
	for s, want := range map[string]string{
		"":          "\x00\x00\x00\x00",
		"a":         "a\x43\xbe\xb7\xe8",
		"123456789": "123456789\x26\x39\xf4\xcb",
	} {
		if got, e := Seal(s); got != want || e != api.OK {
			t.Errorf("Seal(%q): %x, %d; want %x", s, got, e, want)
		}
	}
}

func TestSealAtItsLimit(t *testing.T) {
	most := strings.Repeat("x", 4096)
	if got, e := Seal(most); len(got) != 4100 || got[:4096] != most || e != api.OK {
		t.Errorf("Seal of 4096 octets: %d octets, %d", len(got), e)
	}
	for _, n := range []int{4097, 4100, 1 << 20} {
		if got, e := Seal(strings.Repeat("x", n)); got != "" || e != api.ErrLarge {
			t.Errorf("Seal of %d octets: %d octets, %d", n, len(got), e)
		}
	}
}

func TestOpenOpens(t *testing.T) {
	wantOpen(t, "\x00\x00\x00\x00", "", api.OK)
	wantOpen(t, "123456789\x26\x39\xf4\xcb", "123456789", api.OK)
	most := strings.Repeat("x", 4096)
	x, _ := Seal(most)
	wantOpen(t, x, most, api.OK)
}

func TestOpenOfTooLittle(t *testing.T) {
	for n := range 4 {
		wantOpen(t, strings.Repeat("\x00", n), "", api.ErrShort)
	}
}

func TestOpenOfTooMuch(t *testing.T) {
	wantOpen(t, strings.Repeat("x", 4100), "", api.ErrSum)
	wantOpen(t, strings.Repeat("x", 4101), "", api.ErrLarge)
	// It is too much though its sum is right.
	s := strings.Repeat("x", 4097)
	wantOpen(t, s+sumText(s), "", api.ErrLarge)
}

func TestOpenOfAnotherSum(t *testing.T) {
	wantOpen(t, "\x00\x00\x00\x01", "", api.ErrSum)
	wantOpen(t, "123456789\xcb\xf4\x39\x26", "", api.ErrSum)
	x, _ := Seal("123456789")
	for cut := 4; cut < len(x); cut++ {
		wantOpen(t, x[:cut], "", api.ErrSum)
	}
	wantOpen(t, x+"\x00", "", api.ErrSum)
	wantOpen(t, "\x00"+x, "", api.ErrSum)
}

// P1.4

func TestNumbersLaidAreTaken(t *testing.T) {
	r := rand.New(rand.NewSource(seed))
	for range 20000 {
		n := r.Uint64() >> r.Intn(64)
		ahead, behind := drawn(r, r.Intn(5)), drawn(r, r.Intn(5))
		x := Num(n)
		wantNum(t, ahead+x+behind, len(ahead), n, len(ahead)+len(x), api.OK)
	}
}

func TestTextsLaidAreTaken(t *testing.T) {
	r := rand.New(rand.NewSource(seed))
	for n := range api.MaxText + 1 {
		s := drawn(r, n)
		ahead, behind := drawn(r, r.Intn(5)), drawn(r, r.Intn(5))
		x, e := Text(s)
		if e != api.OK {
			t.Fatalf("Text of %d octets: %d", n, e)
		}
		wantText(t, ahead+x+behind, len(ahead), s, len(ahead)+len(x), api.OK)
	}
}

// likely is octets of which many are at an edge of what a number may be.
func likely(r *rand.Rand) string {
	edges := []byte{0, 1, 2, 127, 128, 129, 254, 255}
	b := []byte(drawn(r, r.Intn(14)))
	for i := range b {
		if r.Intn(4) > 0 {
			b[i] = edges[r.Intn(len(edges))]
		}
	}
	return string(b)
}

func TestTakenIsLaidAsItStood(t *testing.T) {
	r := rand.New(rand.NewSource(seed))
	nums, texts := 0, 0
	for range 50000 {
		s := likely(r)
		at := r.Intn(len(s) + 1)
		if n, next, e := TakeNum(s, at); e == api.OK {
			nums++
			if Num(n) != s[at:next] {
				t.Fatalf("TakeNum(%x, %d) took %d, that is laid %x", s, at, n, Num(n))
			}
		}
		if x, next, e := TakeText(s, at); e == api.OK {
			texts++
			if y, e := Text(x); y != s[at:next] || e != api.OK {
				t.Fatalf("TakeText(%x, %d) took %x, that is laid %x", s, at, x, y)
			}
		}
	}
	if nums < 1000 || texts < 1000 {
		t.Errorf("only %d numbers and %d texts were taken", nums, texts)
	}
}

func TestSealedIsOpened(t *testing.T) {
	r := rand.New(rand.NewSource(seed))
	for n := 0; n <= api.MaxSeal; n += 1 + r.Intn(40) {
		s := drawn(r, n)
		x, e := Seal(s)
		if e != api.OK {
			t.Fatalf("Seal of %d octets: %d", n, e)
		}
		wantOpen(t, x, s, api.OK)
	}
}

func TestOpenedIsSealedAsItStood(t *testing.T) {
	r := rand.New(rand.NewSource(seed))
	for range 200 {
		s := drawn(r, r.Intn(100))
		x := s + string([]byte{byte(slowSum(s)), byte(slowSum(s) >> 8), byte(slowSum(s) >> 16), byte(slowSum(s) >> 24)})
		got, e := Open(x)
		if e != api.OK {
			t.Fatalf("Open of %x: %d", x, e)
		}
		if y, e := Seal(got); y != x || e != api.OK {
			t.Fatalf("Seal of what was opened: %x, %d; want %x", y, e, x)
		}
	}
}

// wantSpoilt asks that a text, of which those bits are turned, is not opened.
func wantSpoilt(t *testing.T, x string, bit int, pattern uint32) {
	t.Helper()
	y, ok := spoilt(x, bit, pattern)
	if !ok {
		return
	}
	if got, e := Open(y); got != "" || e != api.ErrSum {
		t.Fatalf("Open of %d octets, spoilt from bit %d by %x: %.16x, %d", len(x), bit, pattern, got, e)
	}
}

func TestSpoiltIsNotOpened(t *testing.T) {
	r := rand.New(rand.NewSource(seed))
	for _, n := range []int{0, 1, 4, 9, 40} {
		x, _ := Seal(drawn(r, n))
		for bit := range 8 * len(x) {
			for i := range 32 {
				wantSpoilt(t, x, bit, 1<<i|1)
				wantSpoilt(t, x, bit, ^uint32(0)>>i)
			}
			wantSpoilt(t, x, bit, 0xedb88320)
			for range 100 {
				wantSpoilt(t, x, bit, r.Uint32()|1)
			}
		}
	}
}

func TestSpoiltOfTheMostIsNotOpened(t *testing.T) {
	r := rand.New(rand.NewSource(seed))
	x, _ := Seal(drawn(r, api.MaxSeal))
	for bit := 0; bit < 8*len(x); bit += 1 + r.Intn(100) {
		wantSpoilt(t, x, bit, r.Uint32()|1)
	}
}

// R3 and R4: a call's answer hangs on its arguments alone.

func TestAnswersComeAgain(t *testing.T) {
	first, _ := Seal("abc")
	Sum(strings.Repeat("x", 5000))
	Open("spoilt")
	if again, _ := Seal("abc"); again != first {
		t.Errorf("Seal, asked again: %x; first %x", again, first)
	}
}
