package dice

import (
	"math/rand"
	"slices"
	"strings"
	"testing"

	"tattle/api"
)

// The tests' draws are from this seed, so that a failure comes again.
const seed = 1

// badDice are dice that may not be.
var badDice = []api.Dice{
	{L: "", At: -1},
	{L: "", At: 1},
	{L: "abc", At: -1},
	{L: "abc", At: 4},
	{L: "abc", At: 1<<63 - 1},
	{L: "abc", At: -1 << 63},
	{L: "abc", At: 1 << 32},
	{L: "abc", At: -1 << 32},
}

// upTo are n numbers from 0 on.
func upTo(n int) []int {
	var l []int
	for i := range n {
		l = append(l, i)
	}
	return l
}

// drawn is so many octets.
func drawn(r *rand.Rand, n int) string {
	b := make([]byte, n)
	r.Read(b)
	return string(b)
}

// drawnDice are dice that may be, of up to n octets.
func drawnDice(r *rand.Rand, n int) api.Dice {
	s := drawn(r, r.Intn(n+1))
	return api.Dice{L: s, At: r.Intn(len(s) + 1)}
}

// drawnList are up to n numbers, many of them the same ones.
func drawnList(r *rand.Rand, n int) []int {
	var l []int
	for range r.Intn(n + 1) {
		l = append(l, r.Intn(n+1)-n/2)
	}
	return l
}

// slowShuffle is the shuffle as the chapter tells it: each place, from the last one, gets what the draw tells, and that place what stood there.
func slowShuffle(d api.Dice, l []int) ([]int, api.Dice) {
	s := append([]int{}, l...)
	left := d.L[d.At:]
	for i := len(s) - 1; i >= 1; i-- {
		var o int
		if left != "" {
			o, left = int(left[0]), left[1:]
		}
		to := o % (i + 1)
		was := s[to]
		s[to] = s[i]
		s[i] = was
	}
	return s, api.Dice{L: d.L, At: len(d.L) - len(left)}
}

func wantBelow(t *testing.T, d api.Dice, m, n int, then api.Dice, want api.Errno) {
	t.Helper()
	if x, next, e := Below(d, m); x != n || next != then || e != want {
		t.Errorf("Below(%x at %d, %d): %d, at %d, %d; want %d, at %d, %d", d.L, d.At, m, x, next.At, e, n, then.At, want)
	}
}

func wantShuffle(t *testing.T, d api.Dice, l, s []int, then api.Dice, want api.Errno) {
	t.Helper()
	was := slices.Clone(l)
	if x, next, e := Shuffle(d, l); !slices.Equal(x, s) || next != then || e != want {
		t.Errorf("Shuffle(%x at %d, %v): %v, at %d, %d; want %v, at %d, %d", d.L, d.At, l, x, next.At, e, s, then.At, want)
	}
	if !slices.Equal(l, was) {
		t.Errorf("Shuffle changed %v to %v", was, l)
	}
}

func wantPick(t *testing.T, d api.Dice, l []int, k int, p []int, then api.Dice, want api.Errno) {
	t.Helper()
	was := slices.Clone(l)
	if x, next, e := Pick(d, l, k); !slices.Equal(x, p) || next != then || e != want {
		t.Errorf("Pick(%x at %d, %v, %d): %v, at %d, %d; want %v, at %d, %d", d.L, d.At, l, k, x, next.At, e, p, then.At, want)
	}
	if !slices.Equal(l, was) {
		t.Errorf("Pick changed %v to %v", was, l)
	}
}

// P2.1

func TestCheckOfDiceThatMayBe(t *testing.T) {
	for _, d := range []api.Dice{{}, {L: "abc"}, {L: "abc", At: 1}, {L: "abc", At: 2}, {L: "abc", At: 3}, {L: strings.Repeat("x", 1000), At: 1000}} {
		if e := Check(d); e != api.OK {
			t.Errorf("Check of %d octets at %d: %d", len(d.L), d.At, e)
		}
	}
}

func TestCheckOfDiceThatMayNotBe(t *testing.T) {
	for _, d := range badDice {
		if e := Check(d); e != api.ErrArg {
			t.Errorf("Check of %d octets at %d: %d", len(d.L), d.At, e)
		}
	}
}

func TestBelowOfEachOctetAndNumber(t *testing.T) {
	for o := range 256 {
		s := string([]byte{byte(o)})
		for m := 1; m <= 256; m++ {
			wantBelow(t, api.Dice{L: s}, m, o%m, api.Dice{L: s, At: 1}, api.OK)
		}
	}
	wantBelow(t, api.Dice{L: "\x17"}, 10, 3, api.Dice{L: "\x17", At: 1}, api.OK)
}

func TestBelowGoesOn(t *testing.T) {
	const s = "\x05\xff\x00\x80"
	for at, n := range []int{5, 255, 0, 128} {
		wantBelow(t, api.Dice{L: s, At: at}, 256, n, api.Dice{L: s, At: at + 1}, api.OK)
	}
	// Below 1 an octet is taken too.
	wantBelow(t, api.Dice{L: s, At: 1}, 1, 0, api.Dice{L: s, At: 2}, api.OK)
}

func TestBelowBehindTheLastOctet(t *testing.T) {
	for _, m := range []int{1, 2, 255, 256} {
		wantBelow(t, api.Dice{}, m, 0, api.Dice{}, api.OK)
		wantBelow(t, api.Dice{L: "\xff\xff", At: 2}, m, 0, api.Dice{L: "\xff\xff", At: 2}, api.OK)
	}
}

func TestBelowOfNoSuchNumber(t *testing.T) {
	for _, m := range []int{0, -1, -256, 257, 1 << 32, 1<<32 + 1, 1<<63 - 1, -1 << 63} {
		for at := range 3 {
			d := api.Dice{L: "ab", At: at}
			wantBelow(t, d, m, 0, d, api.ErrArg)
		}
	}
}

func TestBelowOfDiceThatMayNotBe(t *testing.T) {
	for _, d := range badDice {
		for _, m := range []int{0, 1, 256, 257} {
			wantBelow(t, d, m, 0, d, api.ErrArg)
		}
	}
}

// P2.2

func TestShuffleByOctets(t *testing.T) {
	for _, c := range []struct {
		octets string
		l, s   []int
		taken  int
	}{
		{"\x00\x00", []int{0, 1, 2}, []int{1, 2, 0}, 2},
		{"\x02\x01", []int{0, 1, 2}, []int{0, 1, 2}, 2},
		{"\x05\x03", []int{0, 1, 2}, []int{0, 1, 2}, 2},
		{"\x01\x00", []int{0, 1, 2}, []int{2, 0, 1}, 2},
		{"\x01\x00\x07", []int{0, 1, 2}, []int{2, 0, 1}, 2},
		{"\x00", []int{8, 9}, []int{9, 8}, 1},
		{"\x01", []int{8, 9}, []int{8, 9}, 1},
		{"\x07", []int{5}, []int{5}, 0},
		{"\x07", nil, nil, 0},
		{"\x07", []int{}, nil, 0},
		{"\x00\x01\x00", []int{4, 4, -3, 4}, []int{-3, 4, 4, 4}, 3},
	} {
		wantShuffle(t, api.Dice{L: c.octets}, c.l, c.s, api.Dice{L: c.octets, At: c.taken}, api.OK)
		ahead := "\xee\xdd" + c.octets
		wantShuffle(t, api.Dice{L: ahead, At: 2}, c.l, c.s, api.Dice{L: ahead, At: 2 + c.taken}, api.OK)
	}
}

func TestShuffleWhoseOctetsEnd(t *testing.T) {
	l := []int{0, 1, 2, 3}
	wantShuffle(t, api.Dice{}, l, []int{1, 2, 3, 0}, api.Dice{}, api.OK)
	wantShuffle(t, api.Dice{L: "\x03"}, l, []int{1, 2, 0, 3}, api.Dice{L: "\x03", At: 1}, api.OK)
	wantShuffle(t, api.Dice{L: "\x09\x03\x02", At: 1}, l, []int{1, 0, 2, 3}, api.Dice{L: "\x09\x03\x02", At: 3}, api.OK)
	wantShuffle(t, api.Dice{L: "\x03\x02", At: 2}, l, []int{1, 2, 3, 0}, api.Dice{L: "\x03\x02", At: 2}, api.OK)
}

func TestShuffleOfTheMost(t *testing.T) {
	l := upTo(256)
	// Each draw is the greatest that can be: all stay where they are.
	var stay []byte
	for m := 256; m >= 2; m-- {
		stay = append(stay, byte(m-1))
	}
	wantShuffle(t, api.Dice{L: string(stay)}, l, l, api.Dice{L: string(stay), At: 255}, api.OK)
	wantShuffle(t, api.Dice{}, l, append(upTo(256)[1:], 0), api.Dice{}, api.OK)
	r := rand.New(rand.NewSource(seed))
	for _, n := range []int{100, 255, 256, 300} {
		d := api.Dice{L: drawn(r, n)}
		s, then := slowShuffle(d, l)
		wantShuffle(t, d, l, s, then, api.OK)
	}
}

func TestShuffleOfTooMany(t *testing.T) {
	for _, n := range []int{257, 258, 512, 1 << 16} {
		for _, d := range []api.Dice{{}, {L: "abc", At: 1}, {L: "abc", At: 3}} {
			wantShuffle(t, d, make([]int, n), nil, d, api.ErrArg)
		}
	}
}

func TestShuffleByDiceThatMayNotBe(t *testing.T) {
	for _, d := range badDice {
		for _, l := range [][]int{nil, {1}, {1, 2}, make([]int, 257)} {
			wantShuffle(t, d, l, nil, d, api.ErrArg)
		}
	}
}

// P2.3

func TestPickTakesTheFirst(t *testing.T) {
	wantPick(t, api.Dice{}, []int{5, 6}, 1, []int{6}, api.Dice{}, api.OK)
	d := api.Dice{L: "\x0b\x00\x01\x09", At: 1}
	then := api.Dice{L: d.L, At: 3}
	l := []int{7, 8, 9}
	for k, p := range [][]int{nil, {9}, {9, 8}, {9, 8, 7}, {9, 8, 7}} {
		wantPick(t, d, l, k, p, then, api.OK)
	}
	wantPick(t, d, l, 1<<63-1, []int{9, 8, 7}, then, api.OK)
	wantPick(t, d, l, 1<<32, []int{9, 8, 7}, then, api.OK)
	wantPick(t, d, []int{3, 3, 3}, 2, []int{3, 3}, then, api.OK)
}

func TestPickOfNoneAndOfOne(t *testing.T) {
	d := api.Dice{L: "\x05\x05"}
	for _, k := range []int{0, 1, 9} {
		wantPick(t, d, nil, k, nil, d, api.OK)
		wantPick(t, d, []int{}, k, nil, d, api.OK)
	}
	wantPick(t, d, []int{4}, 0, nil, d, api.OK)
	wantPick(t, d, []int{4}, 1, []int{4}, d, api.OK)
	wantPick(t, d, []int{4}, 2, []int{4}, d, api.OK)
}

func TestPickOfTheMost(t *testing.T) {
	l := upTo(256)
	d := api.Dice{L: drawn(rand.New(rand.NewSource(seed)), 300)}
	s, then := slowShuffle(d, l)
	for _, k := range []int{0, 1, 255, 256, 257} {
		wantPick(t, d, l, k, s[:min(k, 256)], then, api.OK)
	}
}

func TestPickOfWhatMayNotBe(t *testing.T) {
	d := api.Dice{L: "abc", At: 1}
	for _, k := range []int{-1, -2, -1 << 32, -1 << 63} {
		for _, l := range [][]int{nil, {1, 2, 3}, make([]int, 256), make([]int, 257)} {
			wantPick(t, d, l, k, nil, d, api.ErrArg)
		}
	}
	for _, k := range []int{0, 1, 257} {
		wantPick(t, d, make([]int, 257), k, nil, d, api.ErrArg)
	}
	for _, bad := range badDice {
		for _, k := range []int{-1, 0, 1} {
			wantPick(t, bad, []int{1, 2}, k, nil, bad, api.ErrArg)
			wantPick(t, bad, nil, k, nil, bad, api.ErrArg)
		}
	}
}

// P2.4

func TestShuffledAreTheSameNumbers(t *testing.T) {
	r := rand.New(rand.NewSource(seed))
	for range 2000 {
		d, l := drawnDice(r, 300), drawnList(r, 256)
		s, then := slowShuffle(d, l)
		wantShuffle(t, d, l, s, then, api.OK)
		got, _, _ := Shuffle(d, l)
		slices.Sort(got)
		if !slices.Equal(got, slices.Sorted(slices.Values(l))) {
			t.Errorf("Shuffle(%x at %d, %v) is of other numbers: %v", d.L, d.At, l, got)
		}
	}
}

func TestPickedAreTheFirstOfShuffled(t *testing.T) {
	r := rand.New(rand.NewSource(seed))
	for range 2000 {
		d, l, k := drawnDice(r, 40), drawnList(r, 40), r.Intn(50)
		s, then, _ := Shuffle(d, l)
		wantPick(t, d, l, k, s[:min(k, len(s))], then, api.OK)
	}
}

// scripts are all whose draws put n numbers in order, each draw each number that it can be.
func scripts(n int) []string {
	all := []string{""}
	for m := n; m >= 2; m-- {
		var next []string
		for _, s := range all {
			for o := range m {
				next = append(next, s+string([]byte{byte(o)}))
			}
		}
		all = next
	}
	return all
}

func TestEachOrderComesOnce(t *testing.T) {
	orders := 1
	for n := range 8 {
		orders *= max(n, 1)
		met := map[[8]int]string{}
		for _, s := range scripts(n) {
			l, then, e := Shuffle(api.Dice{L: s}, upTo(n))
			if e != api.OK || then.At != len(s) {
				t.Fatalf("Shuffle of %d by %x: at %d, %d", n, s, then.At, e)
			}
			var order [8]int
			copy(order[:], l)
			if former, ok := met[order]; ok {
				t.Errorf("%v comes by %x and by %x", l, former, s)
			}
			met[order] = s
		}
		if len(met) != orders {
			t.Errorf("of %d numbers %d orders; want %d", n, len(met), orders)
		}
	}
}

func TestOctetsThatAreNotTakenSayNothing(t *testing.T) {
	r := rand.New(rand.NewSource(seed))
	for range 1000 {
		l, k := drawnList(r, 20), r.Intn(20)
		taken := drawn(r, max(len(l)-1, 0))
		d := api.Dice{L: drawn(r, 3) + taken + drawn(r, 4), At: 3}
		other := api.Dice{L: drawn(r, 9) + taken + drawn(r, 1), At: 9}
		s, _, _ := Shuffle(d, l)
		wantShuffle(t, other, l, s, api.Dice{L: other.L, At: 9 + len(taken)}, api.OK)
		p, _, _ := Pick(d, l, k)
		wantPick(t, other, l, k, p, api.Dice{L: other.L, At: 9 + len(taken)}, api.OK)
	}
}

func TestShuffleIsBelowPlaceByPlace(t *testing.T) {
	r := rand.New(rand.NewSource(seed))
	for range 500 {
		d, l := drawnDice(r, 30), drawnList(r, 30)
		s, then := slices.Clone(l), d
		for i := len(s) - 1; i >= 1; i-- {
			j, next, e := Below(then, i+1)
			if e != api.OK {
				t.Fatalf("Below(%x at %d, %d): %d", then.L, then.At, i+1, e)
			}
			s[i], s[j], then = s[j], s[i], next
		}
		wantShuffle(t, d, l, s, then, api.OK)
	}
}

// R3, R4

func TestAnswersAreNewMemory(t *testing.T) {
	// By these octets all stay where they are: also then the answer is another list.
	d := api.Dice{L: "\x02\x01"}
	l := []int{1, 2, 3}
	s, _, _ := Shuffle(d, l)
	p, _, _ := Pick(d, l, 2)
	for i := range s {
		s[i] = 9
	}
	for i := range p {
		p[i] = 8
	}
	one := []int{4}
	x, _, _ := Shuffle(d, one)
	x[0] = 9
	if !slices.Equal(l, []int{1, 2, 3}) || one[0] != 4 {
		t.Errorf("what is answered shares memory with what was handed in: %v, %v", l, one)
	}
}

func TestAnswersComeAgain(t *testing.T) {
	r := rand.New(rand.NewSource(seed))
	for range 200 {
		d, l, m, k := drawnDice(r, 50), drawnList(r, 50), r.Intn(260)-1, r.Intn(55)-1
		n, dn, en := Below(d, m)
		wantBelow(t, d, m, n, dn, en)
		s, ds, es := Shuffle(d, l)
		wantShuffle(t, d, l, s, ds, es)
		p, dp, ep := Pick(d, l, k)
		wantPick(t, d, l, k, p, dp, ep)
	}
}
