package ring

import (
	"cmp"
	"fmt"
	library "hash/fnv"
	"math"
	"math/rand"
	"slices"
	"strings"
	"testing"

	"tattle/api"
)

// The tests' draws are from this seed, so that a failure comes again.
const seed = 1

// zeroSum is a key whose sum is 0.
const zeroSum = "\xd5\x6b\xb9\x53\x42\x87\x08\x36"

// badNumbers are no nodes' numbers.
var badNumbers = []int{-1, 64, 65, -2, -63, -64, 127, 128, 255, 256, 319, 1 << 31, -1 << 31, 1 << 32, 1<<32 + 5, -1 << 32, -1<<32 + 5, math.MinInt, math.MinInt + 1, math.MaxInt - 1, math.MaxInt}

// badSpots are how many points no node has.
var badSpots = []int{0, -1, 33, 34, -2, -31, -32, 64, 255, 256, 257, 288, 1 << 31, -1 << 31, 1 << 32, 1<<32 + 1, 1<<32 + 32, -1 << 32, -1<<32 + 1, math.MinInt, math.MinInt + 1, math.MaxInt - 1, math.MaxInt}

// edgeHashes are places on a ring at the edges, and between, rising.
var edgeHashes = []uint64{0, 1, 255, math.MaxUint32, 1 << 32, 1<<63 - 1, 1 << 63, 1<<63 + 1, math.MaxUint64 - 1, math.MaxUint64}

// edgeIs are the how manieth a point may be, rising: no point is refused for that.
var edgeIs = []int{math.MinInt, -1 << 32, -1, 0, 1, 31, 32, 33, 1 << 32, math.MaxInt}

// knownPoints are points as the sums of their texts are known.
var knownPoints = []api.Point{
	{Hash: 0x4e15d8181d07e210, Node: 0, I: 0},
	{Hash: 0x4e15e1181d07f15b, Node: 0, I: 9},
	{Hash: 0xb703d6f9546855e9, Node: 0, I: 10},
	{Hash: 0xb70a61f9546dadc8, Node: 0, I: 31},
	{Hash: 0x8bdc791840582883, Node: 9, I: 0},
	{Hash: 0x8bdc801840583468, Node: 9, I: 9},
	{Hash: 0xffc6f13555ca0ea0, Node: 9, I: 10},
	{Hash: 0x0d63d3f0f8744db3, Node: 10, I: 0},
	{Hash: 0x0d63daf0f8745998, Node: 10, I: 9},
	{Hash: 0x34eb9f762d9d7590, Node: 10, I: 10},
	{Hash: 0x57178f18223abc85, Node: 3, I: 0},
	{Hash: 0x37c1530229cb8aa0, Node: 3, I: 12},
	{Hash: 0x1f67c0f102dada6a, Node: 12, I: 1},
	{Hash: 0x6be9c9024763eee0, Node: 31, I: 2},
	{Hash: 0xb6368aea7ea587b9, Node: 63, I: 0},
	{Hash: 0x442b8475333cdc63, Node: 63, I: 31},
}

// sum is the library's own sum of a text.
func sum(s string) uint64 {
	h := library.New64a()
	h.Write([]byte(s))
	return h.Sum64()
}

// upTo are n numbers from 0 on.
func upTo(n int) []int {
	var l []int
	for i := range n {
		l = append(l, i)
	}
	return l
}

// but is a list with something else at a place.
func but[T any](l []T, at int, x T) []T {
	then := slices.Clone(l)
	then[at] = x
	return then
}

// with is a list with one more at a place.
func with[T any](l []T, at int, x T) []T { return slices.Insert(slices.Clone(l), at, x) }

// swapped is a list of which two have changed places.
func swapped[T any](l []T, i, j int) []T {
	then := slices.Clone(l)
	then[i], then[j] = then[j], then[i]
	return then
}

// without is a list of numbers with one less.
func without(l []int, n int) []int {
	return slices.DeleteFunc(slices.Clone(l), func(x int) bool { return x == n })
}

// withNode are nodes with one more, in order.
func withNode(l []int, n int) []int {
	at, _ := slices.BinarySearch(l, n)
	return with(l, at, n)
}

// withoutNode are points but for those of a node.
func withoutNode(l []api.Point, n int) []api.Point {
	return slices.DeleteFunc(slices.Clone(l), func(p api.Point) bool { return p.Node == n })
}

// badNodes are nodes that may not be: a number that is none at each place, out of order, one twice, and too many.
func badNodes() [][]int {
	lists := [][]int{{63, 0}, {1, 0}, {63, 62}, {0, 2, 1}, {2, 0, 1}, {1, 2, 0}, {0, 0}, {63, 63}, {0, 1, 1}, {1, 1, 2}, {0, 1, 0}}
	for _, n := range []int{1, 2, 3, 63} {
		for at := range n {
			for _, x := range badNumbers {
				lists = append(lists, but(upTo(n), at, x))
			}
		}
	}
	for at := range 64 {
		lists = append(lists, but(upTo(64), at, -1), but(upTo(64), at, 64), with(upTo(64), at, at), with(upTo(64), at, 64), with(upTo(64), at, -1))
	}
	for at := range 63 {
		lists = append(lists, swapped(upTo(64), at, at+1), but(upTo(64), at, at+1), but(upTo(64), at+1, at))
	}
	for _, n := range []int{65, 66, 128, 1000} {
		lists = append(lists, upTo(n), make([]int, n))
	}
	return lists
}

// someNodes are nodes that may be, of each size of note.
func someNodes() [][]int {
	return [][]int{{0}, {9}, {10}, {63}, {0, 63}, {3, 12}, {9, 10}, {1, 11, 12}, {0, 1, 2, 3, 4}, {8, 9, 10, 11}, {5, 17, 40, 62}, upTo(11), upTo(63), upTo(64), upTo(64)[1:]}
}

// drawnNodes are one or more nodes below so many.
func drawnNodes(r *rand.Rand, below int) []int {
	l := r.Perm(below)[:1+r.Intn(below)]
	slices.Sort(l)
	return l
}

// drawn is so many octets.
func drawn(r *rand.Rand, n int) string {
	b := make([]byte, n)
	r.Read(b)
	return string(b)
}

// someKeys are keys of every kind: empty, names, octets that are no UTF-8, one whose sum is 0, long ones, those of a ring's points and beside them, and some that are drawn.
func someKeys() []string {
	l := []string{
		"", "a", "k", "job-1", "job-2", "mail", "3/0", "3/1", "63/31", "0/0", "10/10", "9/", "/", "/0", "03/0", "3/00",
		"\x00", "\x00\x00", "\xff", "\xff\xff\xff", "\x80", "\xc0\xaf", "\xe2\x82", "a\xffb", "\xed\xa0\x80", "\xf4\x90\x80\x80", "é", "世界", "\ufffd", zeroSum,
		strings.Repeat("\x00", 700), strings.Repeat("\xff", 700), strings.Repeat("job-", 20000),
	}
	r := rand.New(rand.NewSource(seed))
	for range 60 {
		l = append(l, drawn(r, 1+r.Intn(30)), fmt.Sprintf("%d/%d", r.Intn(64), r.Intn(32)), fmt.Sprintf("%d/%c", r.Intn(64), rune(r.Intn(128))))
	}
	return l
}

// bySum tells which of two keys has the lesser sum.
func bySum(a, b string) int { return cmp.Compare(sum(a), sum(b)) }

// drawnPoints are points that may be, of n draws, of nodes below so many; hashes are few, at the edges, those of some keys, and beside them.
func drawnPoints(r *rand.Rand, n, below int, keys []string) []api.Point {
	var l []api.Point
	for range n {
		h := sum(keys[r.Intn(len(keys))]) + uint64(r.Intn(3)) - 1
		switch r.Intn(4) {
		case 0:
			h = edgeHashes[r.Intn(len(edgeHashes))]
		case 1:
			h = r.Uint64()
		}
		l = append(l, api.Point{Hash: h, Node: r.Intn(below), I: edgeIs[r.Intn(len(edgeIs))]})
	}
	return slices.Compact(slowSorted(l))
}

// rowOf is a row of n points that may be, each of another node, from 0 on.
func rowOf(n int) []api.Point {
	var l []api.Point
	for i := range n {
		l = append(l, api.Point{Hash: uint64(i) << 50, Node: i % 64, I: i / 64})
	}
	return l
}

// badPoints are points that may not be: of a number that is none at each place, out of order, one twice, and too many.
func badPoints() [][]api.Point {
	one := api.Point{Hash: 5, Node: 4, I: 3}
	lists := [][]api.Point{
		{one, one},
		{one, {Hash: 5, Node: 4, I: 2}},
		{one, {Hash: 5, Node: 3, I: 4}},
		{one, {Hash: 4, Node: 5, I: 4}},
		{one, {Hash: 6, Node: 4, I: 3}, one},
		{{Hash: math.MaxUint64}, {Hash: 0}},
		{{Hash: 1 << 63}, {Hash: 1<<63 - 1}},
		make([]api.Point, 2),
		make([]api.Point, 2049),
		rowOf(2049),
		rowOf(4096),
		with(rowOf(2048), 2048, api.Point{Hash: math.MaxUint64, Node: 64}),
	}
	for _, n := range badNumbers {
		for _, size := range []int{1, 2, 64, 2048} {
			for _, at := range []int{0, size / 2, size - 1} {
				l := rowOf(size)
				l[at].Node = n
				lists = append(lists, l)
			}
		}
	}
	for at := range 63 {
		lists = append(lists, swapped(rowOf(64), at, at+1), but(rowOf(64), at, rowOf(64)[at+1]), with(rowOf(64), at, rowOf(64)[at]))
	}
	return lists
}

// slowAhead says whether a point comes ahead of another one.
func slowAhead(a, b api.Point) bool {
	if a.Hash != b.Hash {
		return a.Hash < b.Hash
	}
	if a.Node != b.Node {
		return a.Node < b.Node
	}
	return a.I < b.I
}

// slowSorted puts each point behind all that do not come behind it.
func slowSorted(l []api.Point) []api.Point {
	var sorted []api.Point
	for _, p := range l {
		at := len(sorted)
		for at > 0 && slowAhead(p, sorted[at-1]) {
			at--
		}
		sorted = slices.Insert(sorted, at, p)
	}
	return sorted
}

// slowPoints are the points of nodes that may be.
func slowPoints(nodes []int, spots int) []api.Point {
	var l []api.Point
	for _, n := range nodes {
		for i := range spots {
			l = append(l, api.Point{Hash: sum(fmt.Sprintf("%d/%d", n, i)), Node: n, I: i})
		}
	}
	return slowSorted(l)
}

// slowMay says whether points may be.
func slowMay(l []api.Point) bool {
	for at, p := range l {
		if p.Node < 0 || p.Node > 63 || at > 0 && !slowAhead(l[at-1], p) {
			return false
		}
	}
	return len(l) <= 2048
}

// slowPlace goes along the points, of which there are some, up to the first one that is far enough.
func slowPlace(l []api.Point, key string) int {
	h := sum(key)
	for at, p := range l {
		if p.Hash >= h {
			return at
		}
	}
	return 0
}

// slowWalk goes along the points from a key's place on, and then from the first one on.
func slowWalk(l []api.Point, key string) []int {
	from := slowPlace(l, key)
	var walk []int
	for _, p := range slices.Concat(l[from:], l[:from]) {
		if !slices.Contains(walk, p.Node) {
			walk = append(walk, p.Node)
		}
	}
	return walk
}

// few is as much of a list as a failure shows.
func few[T any](l []T) []T { return l[:min(len(l), 8)] }

// wantStays fails if a list that was handed in is not as it was.
func wantStays[T comparable](t *testing.T, call string, l, was []T) {
	t.Helper()
	if !slices.Equal(l, was) {
		t.Errorf("%s changed %v to %v", call, few(was), few(l))
	}
}

func wantPoints(t *testing.T, nodes []int, spots int, want []api.Point, wantE api.Errno) {
	t.Helper()
	was := slices.Clone(nodes)
	l, e := Points(nodes, spots)
	if !slices.Equal(l, want) || e != wantE {
		t.Errorf("Points(%v, %d): %d: %v, %d; want %d: %v, %d", nodes, spots, len(l), few(l), e, len(want), few(want), wantE)
	}
	wantStays(t, "Points", nodes, was)
}

func wantCheck(t *testing.T, l []api.Point, want api.Errno) {
	t.Helper()
	was := slices.Clone(l)
	if e := Check(l); e != want {
		t.Errorf("Check(%d: %v): %d; want %d", len(l), few(l), e, want)
	}
	wantStays(t, "Check", l, was)
}

// wantFound fails if a key's place, its owner and its walk are not these, each with that error.
func wantFound(t *testing.T, l []api.Point, key string, place, owner int, walk []int, want api.Errno) {
	t.Helper()
	was := slices.Clone(l)
	if at, e := Place(l, key); at != place || e != want {
		t.Errorf("Place(%d: %v, %.40q): %d, %d; want %d, %d", len(l), few(l), key, at, e, place, want)
	}
	if n, e := Owner(l, key); n != owner || e != want {
		t.Errorf("Owner(%d: %v, %.40q): %d, %d; want %d, %d", len(l), few(l), key, n, e, owner, want)
	}
	if w, e := Walk(l, key); !slices.Equal(w, walk) || e != want {
		t.Errorf("Walk(%d: %v, %.40q): %v, %d; want %v, %d", len(l), few(l), key, w, e, walk, want)
	}
	wantStays(t, "Place, Owner, or Walk,", l, was)
}

func wantRefused(t *testing.T, l []api.Point, key string, want api.Errno) {
	t.Helper()
	wantFound(t, l, key, 0, 0, nil, want)
}

// wantLikeSlow fails if what is found of a key is not as the slow model has it.
func wantLikeSlow(t *testing.T, l []api.Point, key string) {
	t.Helper()
	place := slowPlace(l, key)
	wantFound(t, l, key, place, l[place].Node, slowWalk(l, key), api.OK)
}

// ringOf is the ring of nodes that may be.
func ringOf(t *testing.T, nodes []int, spots int) []api.Point {
	t.Helper()
	l, e := Points(nodes, spots)
	if e != api.OK || len(l) != len(nodes)*spots {
		t.Fatalf("Points(%v, %d): %d points, %d", nodes, spots, len(l), e)
	}
	return l
}

// ownerOf is whose a key is, of points that may be.
func ownerOf(t *testing.T, l []api.Point, key string) int {
	t.Helper()
	n, e := Owner(l, key)
	if e != api.OK {
		t.Fatalf("Owner(%v, %.40q): %d", few(l), key, e)
	}
	return n
}

// walkOf is a key's walk, of points that may be.
func walkOf(t *testing.T, l []api.Point, key string) []int {
	t.Helper()
	w, e := Walk(l, key)
	if e != api.OK {
		t.Fatalf("Walk(%v, %.40q): %d", few(l), key, e)
	}
	return w
}

// The chapter's examples

func TestExamples(t *testing.T) {
	l := []api.Point{{Hash: 0x57178e18223abad2, Node: 3, I: 1}, {Hash: 0x57178f18223abc85, Node: 3, I: 0}}
	wantPoints(t, []int{3}, 2, l, api.OK)
	for _, key := range someKeys() {
		if n, e := Owner(l, key); n != 3 || e != api.OK {
			t.Errorf("Owner(%.40q): %d, %d", key, n, e)
		}
		wantRefused(t, nil, key, api.ErrNone)
	}
}

// P13.1: Points

func TestPointsKnown(t *testing.T) {
	for _, nodes := range [][]int{{0, 3, 9, 10, 12, 31, 63}, upTo(64)} {
		l := ringOf(t, nodes, 32)
		for _, p := range knownPoints {
			if !slices.Contains(l, p) {
				t.Errorf("Points(%v, 32) have no %v", nodes, p)
			}
		}
	}
	wantPoints(t, []int{3, 12}, 2, []api.Point{
		{Hash: 0x1f67c0f102dada6a, Node: 12, I: 1},
		{Hash: 0x1f67c1f102dadc1d, Node: 12, I: 0},
		{Hash: 0x57178e18223abad2, Node: 3, I: 1},
		{Hash: 0x57178f18223abc85, Node: 3, I: 0},
	}, api.OK)
}

func TestPointsOfNodesThatMayNotBe(t *testing.T) {
	for _, nodes := range badNodes() {
		for _, spots := range []int{1, 2, 31, 32} {
			wantPoints(t, nodes, spots, nil, api.ErrArg)
		}
	}
}

func TestPointsOfSpotsThatMayNotBe(t *testing.T) {
	for _, spots := range badSpots {
		for _, nodes := range someNodes() {
			wantPoints(t, nodes, spots, nil, api.ErrArg)
		}
		for _, nodes := range [][]int{{-1}, {64}, {1, 0}, {1, 1}, upTo(65)} {
			wantPoints(t, nodes, spots, nil, api.ErrArg)
		}
	}
}

func TestPointsOfNoNodes(t *testing.T) {
	for spots := 1; spots <= 32; spots++ {
		wantPoints(t, nil, spots, nil, api.OK)
		wantPoints(t, []int{}, spots, nil, api.OK)
		wantPoints(t, upTo(3)[:0], spots, nil, api.OK)
	}
	for _, spots := range badSpots {
		wantPoints(t, nil, spots, nil, api.ErrArg)
		wantPoints(t, []int{}, spots, nil, api.ErrArg)
	}
}

func TestPointsOfOneNode(t *testing.T) {
	for n := range 64 {
		for spots := 1; spots <= 32; spots++ {
			wantPoints(t, []int{n}, spots, slowPoints([]int{n}, spots), api.OK)
		}
	}
}

func TestPointsOfSeveralNodes(t *testing.T) {
	for _, nodes := range someNodes() {
		for _, spots := range []int{1, 2, 3, 9, 10, 11, 12, 31, 32} {
			wantPoints(t, nodes, spots, slowPoints(nodes, spots), api.OK)
		}
	}
	r := rand.New(rand.NewSource(seed))
	for range 300 {
		nodes, spots := drawnNodes(r, 1+r.Intn(64)), 1+r.Intn(32)
		wantPoints(t, nodes, spots, slowPoints(nodes, spots), api.OK)
	}
}

func TestPointsOfEachNode(t *testing.T) {
	for _, nodes := range someNodes() {
		for spots := 1; spots <= 32; spots++ {
			l := ringOf(t, nodes, spots)
			met := map[[2]int]int{}
			for _, p := range l {
				met[[2]int{p.Node, p.I}]++
				if want := sum(fmt.Sprintf("%d/%d", p.Node, p.I)); p.Hash != want {
					t.Errorf("Points(%v, %d): %v; want hash %x", nodes, spots, p, want)
				}
			}
			for _, n := range nodes {
				for i := range spots {
					if met[[2]int{n, i}] != 1 {
						t.Errorf("Points(%v, %d): %d of node %d, I %d", nodes, spots, met[[2]int{n, i}], n, i)
					}
				}
			}
		}
	}
}

func TestPointsAreSorted(t *testing.T) {
	for _, nodes := range someNodes() {
		for spots := 1; spots <= 32; spots++ {
			l := ringOf(t, nodes, spots)
			wantCheck(t, l, api.OK)
			for at := 1; at < len(l); at++ {
				if !slowAhead(l[at-1], l[at]) {
					t.Errorf("Points(%v, %d): %v ahead of %v", nodes, spots, l[at-1], l[at])
				}
			}
		}
	}
}

// P13.1: Check

func TestCheckOfNone(t *testing.T) {
	wantCheck(t, nil, api.OK)
	wantCheck(t, []api.Point{}, api.OK)
	wantCheck(t, rowOf(3)[:0], api.OK)
}

func TestCheckOfOne(t *testing.T) {
	for _, h := range edgeHashes {
		for _, i := range edgeIs {
			for n := range 64 {
				wantCheck(t, []api.Point{{Hash: h, Node: n, I: i}}, api.OK)
			}
			for _, n := range badNumbers {
				wantCheck(t, []api.Point{{Hash: h, Node: n, I: i}}, api.ErrArg)
			}
		}
	}
}

func TestCheckOfTwo(t *testing.T) {
	var all []api.Point
	for _, h := range edgeHashes {
		for _, n := range []int{0, 1, 62, 63} {
			for _, i := range edgeIs {
				all = append(all, api.Point{Hash: h, Node: n, I: i})
			}
		}
	}
	// They were made in order, so that the one is ahead of the other one by its place.
	for i, a := range all {
		for j, b := range all {
			want := api.ErrArg
			if i < j {
				want = api.OK
			}
			if e := Check([]api.Point{a, b}); e != want {
				t.Fatalf("Check(%v, %v): %d; want %d", a, b, e, want)
			}
		}
	}
	wantCheck(t, all, api.OK)
}

func TestCheckOfTwoThatDifferInOne(t *testing.T) {
	p := api.Point{Hash: 7, Node: 5, I: 3}
	for _, o := range []api.Point{{Hash: 8, Node: 5, I: 3}, {Hash: 7, Node: 6, I: 3}, {Hash: 7, Node: 5, I: 4}} {
		wantCheck(t, []api.Point{p, o}, api.OK)
		wantCheck(t, []api.Point{o, p}, api.ErrArg)
	}
	// What is told ahead counts more.
	for _, o := range []api.Point{{Hash: 8, Node: 4, I: 2}, {Hash: 8, Node: 0, I: -9}, {Hash: 7, Node: 6, I: 2}, {Hash: 7, Node: 63, I: -9}} {
		wantCheck(t, []api.Point{p, o}, api.OK)
		wantCheck(t, []api.Point{o, p}, api.ErrArg)
	}
	wantCheck(t, []api.Point{p, p}, api.ErrArg)
}

func TestCheckOfTheMost(t *testing.T) {
	wantCheck(t, rowOf(2047), api.OK)
	wantCheck(t, rowOf(2048), api.OK)
	wantCheck(t, rowOf(2049), api.ErrArg)
	wantCheck(t, ringOf(t, upTo(64), 32), api.OK)
	wantCheck(t, with(ringOf(t, upTo(64), 32), 0, api.Point{}), api.ErrArg)
	wantCheck(t, with(ringOf(t, upTo(64), 32), 2048, api.Point{Hash: math.MaxUint64}), api.ErrArg)
	// So many may be of one node alone, and in one spot: no more is asked than that.
	var one, spot []api.Point
	for i := range 2048 {
		one = append(one, api.Point{Hash: uint64(i), Node: 63})
		spot = append(spot, api.Point{Hash: 9, Node: 63, I: i})
	}
	wantCheck(t, one, api.OK)
	wantCheck(t, spot, api.OK)
	wantCheck(t, append(one, api.Point{Hash: 2048, Node: 63}), api.ErrArg)
	wantCheck(t, append(spot, api.Point{Hash: 9, Node: 63, I: 2048}), api.ErrArg)
}

func TestCheckOfWhatMayNotBe(t *testing.T) {
	for _, l := range badPoints() {
		wantCheck(t, l, api.ErrArg)
	}
}

func TestCheckAtEachPlace(t *testing.T) {
	l := ringOf(t, upTo(64), 32)
	for at := range 2048 {
		l[at].Node -= 64
		wantCheck(t, l, api.ErrArg)
		l[at].Node += 128
		wantCheck(t, l, api.ErrArg)
		l[at].Node -= 64
		if at > 0 {
			l[at-1], l[at] = l[at], l[at-1]
			wantCheck(t, l, api.ErrArg)
			l[at-1], l[at] = l[at], l[at-1]
			was := l[at]
			l[at] = l[at-1]
			wantCheck(t, l, api.ErrArg)
			l[at] = was
		}
	}
	wantCheck(t, l, api.OK)
}

func TestCheckOfWhatIsDrawn(t *testing.T) {
	r := rand.New(rand.NewSource(seed))
	met := map[bool]int{}
	for range 5000 {
		var l []api.Point
		for range r.Intn(5) {
			l = append(l, api.Point{Hash: uint64(r.Intn(3)), Node: r.Intn(4) - r.Intn(20)/19, I: r.Intn(3) - 1})
		}
		may := slowMay(l)
		met[may]++
		if may {
			wantCheck(t, l, api.OK)
		} else {
			wantCheck(t, l, api.ErrArg)
		}
	}
	if met[true] < 500 || met[false] < 500 {
		t.Errorf("drawn: %v", met)
	}
}

// P13.2

func TestFoundOnPointsThatMayNotBe(t *testing.T) {
	for _, l := range badPoints() {
		for _, key := range []string{"", "k", "\xff\x00", zeroSum, "3/0"} {
			wantRefused(t, l, key, api.ErrArg)
		}
	}
}

func TestFoundOnNone(t *testing.T) {
	for _, key := range someKeys() {
		wantRefused(t, nil, key, api.ErrNone)
		wantRefused(t, []api.Point{}, key, api.ErrNone)
		wantRefused(t, rowOf(3)[:0], key, api.ErrNone)
	}
}

func TestFoundOnOne(t *testing.T) {
	for _, key := range someKeys() {
		for _, h := range append([]uint64{sum(key), sum(key) + 1, sum(key) - 1}, edgeHashes...) {
			for _, n := range []int{0, 1, 63} {
				for _, i := range []int{math.MinInt, -1, 0, 31, 32, math.MaxInt} {
					wantFound(t, []api.Point{{Hash: h, Node: n, I: i}}, key, 0, n, []int{n}, api.OK)
				}
			}
		}
	}
}

func TestFoundAtASum(t *testing.T) {
	for _, key := range someKeys() {
		h := sum(key)
		if h < 2 || h > math.MaxUint64-2 {
			continue
		}
		// A point just there, one just ahead, and one just behind: the first one that is no less.
		wantFound(t, []api.Point{{Hash: h - 1, Node: 4}, {Hash: h, Node: 9}, {Hash: h + 1, Node: 2}}, key, 1, 9, []int{9, 2, 4}, api.OK)
		wantFound(t, []api.Point{{Hash: h - 1, Node: 4}, {Hash: h + 1, Node: 2}}, key, 1, 2, []int{2, 4}, api.OK)
		wantFound(t, []api.Point{{Hash: h - 2, Node: 4}, {Hash: h - 1, Node: 9}}, key, 0, 4, []int{4, 9}, api.OK)
		wantFound(t, []api.Point{{Hash: h - 1, Node: 4}, {Hash: h, Node: 9}}, key, 1, 9, []int{9, 4}, api.OK)
		wantFound(t, []api.Point{{Hash: h, Node: 4}, {Hash: h + 1, Node: 9}}, key, 0, 4, []int{4, 9}, api.OK)
		wantFound(t, []api.Point{{Hash: h + 1, Node: 4}, {Hash: h + 2, Node: 9}}, key, 0, 4, []int{4, 9}, api.OK)
		wantFound(t, []api.Point{{Hash: 0, Node: 4}, {Hash: math.MaxUint64, Node: 9}}, key, 1, 9, []int{9, 4}, api.OK)
		wantFound(t, []api.Point{{Hash: 0, Node: 4}, {Hash: 1, Node: 9}}, key, 0, 4, []int{4, 9}, api.OK)
	}
}

func TestFoundAtTheLeastSum(t *testing.T) {
	if sum(zeroSum) != 0 {
		t.Fatal("zeroSum has another sum")
	}
	wantFound(t, []api.Point{{Hash: 0, Node: 5}, {Hash: 1, Node: 3}}, zeroSum, 0, 5, []int{5, 3}, api.OK)
	wantFound(t, []api.Point{{Hash: 1, Node: 5}, {Hash: math.MaxUint64, Node: 3}}, zeroSum, 0, 5, []int{5, 3}, api.OK)
	wantFound(t, []api.Point{{Hash: math.MaxUint64 - 1, Node: 5}, {Hash: math.MaxUint64, Node: 3}}, zeroSum, 0, 5, []int{5, 3}, api.OK)
}

func TestFoundAtSumsOfPoints(t *testing.T) {
	for _, nodes := range someNodes() {
		for _, spots := range []int{1, 2, 32} {
			l := ringOf(t, nodes, spots)
			for at, p := range l {
				key := fmt.Sprintf("%d/%d", p.Node, p.I)
				if i, e := Place(l, key); i != at || e != api.OK {
					t.Errorf("Place(ring of %v, %d, %q): %d, %d; want %d", nodes, spots, key, i, e, at)
				}
				if n, e := Owner(l, key); n != p.Node || e != api.OK {
					t.Errorf("Owner(ring of %v, %d, %q): %d, %d; want %d", nodes, spots, key, n, e, p.Node)
				}
			}
		}
	}
}

func TestFoundWithSumsBesideEachPoint(t *testing.T) {
	const key = "job-1"
	h := sum(key)
	// One point after the other is laid just at the key's sum, just ahead of it, and just behind it.
	for at := range 64 {
		for _, turned := range []uint64{h, h - 1, h + 1} {
			var l []api.Point
			for i := range 64 {
				l = append(l, api.Point{Hash: turned + uint64(i-at)*1000, Node: i})
			}
			wantLikeSlow(t, slowSorted(l), key)
		}
	}
}

func TestFoundOfASumBelowAndAboveAll(t *testing.T) {
	keys := slices.SortedFunc(slices.Values(someKeys()), bySum)
	below, above := keys[:3], keys[len(keys)-3:]
	if sum(below[2]) >= 1<<62 || sum(above[0]) <= 1<<62+63 {
		t.Fatalf("no sums below and above: %x and %x", sum(below[2]), sum(above[0]))
	}
	for _, n := range []int{1, 2, 3, 64} {
		var l []api.Point
		for i := range n {
			l = append(l, api.Point{Hash: 1<<62 + uint64(i), Node: 63 - i})
		}
		walk := upTo(64)[64-n:]
		slices.Reverse(walk)
		// All have the first point of all: the ones from below, the other ones around the ring.
		for _, key := range slices.Concat(below, above) {
			wantFound(t, l, key, 0, 63, walk, api.OK)
		}
	}
}

func TestFoundAtSeveralPointsOfOneHash(t *testing.T) {
	for _, key := range []string{"", "k", "job-1", "\xff\x00"} {
		h := sum(key)
		l := []api.Point{{Hash: h - 1, Node: 7}, {Hash: h, Node: 1, I: -5}, {Hash: h, Node: 1, I: 40}, {Hash: h, Node: 4, I: 2}, {Hash: h, Node: 9}, {Hash: h + 1, Node: 0}, {Hash: h + 1, Node: 1}}
		wantFound(t, l, key, 1, 1, []int{1, 4, 9, 0, 7}, api.OK)
		wantFound(t, l[1:], key, 0, 1, []int{1, 4, 9, 0}, api.OK)
		wantFound(t, l[:5], key, 1, 1, []int{1, 4, 9, 7}, api.OK)
		wantFound(t, l[2:5], key, 0, 1, []int{1, 4, 9}, api.OK)
		wantFound(t, l[5:], key, 0, 0, []int{0, 1}, api.OK)
		// Of all in one spot the first one has each key.
		for _, other := range []uint64{0, h - 1, h, h + 1, math.MaxUint64} {
			var spot []api.Point
			for n := range 64 {
				for i := range 32 {
					spot = append(spot, api.Point{Hash: other, Node: n, I: i})
				}
			}
			wantFound(t, spot, key, 0, 0, upTo(64), api.OK)
		}
	}
}

func TestWalkOfOneNode(t *testing.T) {
	for _, n := range []int{0, 1, 9, 10, 62, 63} {
		for _, spots := range []int{1, 2, 31, 32} {
			l := ringOf(t, []int{n}, spots)
			for _, key := range someKeys() {
				if w := walkOf(t, l, key); !slices.Equal(w, []int{n}) {
					t.Errorf("Walk(ring of %d, %d, %.40q): %v", n, spots, key, w)
				}
				wantLikeSlow(t, l, key)
			}
		}
	}
}

func TestWalkAround(t *testing.T) {
	l := rowOf(64)
	for i := range l {
		l[i].Hash = uint64(i+1) << 57
	}
	for at := range 64 {
		// The key's place is each one in turn; from there all the others come, the first one behind the last one.
		then := slices.Clone(l)
		for i := range then {
			then[i].Hash += sum("k") - l[at].Hash
		}
		sorted := slowSorted(then)
		first := then[at].Node
		var walk []int
		for i := range 64 {
			walk = append(walk, (first+i)%64)
		}
		wantFound(t, sorted, "k", slices.Index(sorted, then[at]), first, walk, api.OK)
	}
	last := []api.Point{{Hash: 1, Node: 8}, {Hash: 2, Node: 6}, {Hash: 3, Node: 8, I: 1}, {Hash: math.MaxUint64, Node: 6, I: 1}}
	wantFound(t, last, "k", 3, 6, []int{6, 8}, api.OK)
}

func TestWalkPassesNodesThatWereMet(t *testing.T) {
	h := sum("k")
	l := []api.Point{
		{Hash: 0, Node: 5}, {Hash: 1, Node: 2}, {Hash: 2, Node: 0}, {Hash: 3, Node: 5},
		{Hash: h, Node: 2}, {Hash: h + 1, Node: 2}, {Hash: h + 2, Node: 63}, {Hash: h + 3, Node: 2}, {Hash: h + 4, Node: 5}, {Hash: h + 5, Node: 63},
	}
	wantFound(t, l, "k", 4, 2, []int{2, 63, 5, 0}, api.OK)
	wantFound(t, l[:4], "k", 0, 5, []int{5, 2, 0}, api.OK)
}

func TestFoundOnRings(t *testing.T) {
	keys := someKeys()
	for _, nodes := range someNodes() {
		for _, spots := range []int{1, 2, 11, 32} {
			l := ringOf(t, nodes, spots)
			for _, key := range keys {
				wantLikeSlow(t, l, key)
			}
		}
	}
}

func TestFoundOnPointsThatAreDrawn(t *testing.T) {
	r := rand.New(rand.NewSource(seed))
	keys := someKeys()
	for range 3000 {
		some := []string{keys[r.Intn(len(keys))], keys[r.Intn(len(keys))], drawn(r, r.Intn(20))}
		l := drawnPoints(r, 1+r.Intn(12), 1+r.Intn(64), some)
		wantCheck(t, l, api.OK)
		for _, key := range some {
			wantLikeSlow(t, l, key)
		}
	}
	for range 30 {
		l := drawnPoints(r, 2048, 64, keys)
		for range 10 {
			wantLikeSlow(t, l, keys[r.Intn(len(keys))])
		}
	}
}

func TestFoundOfALongKey(t *testing.T) {
	r := rand.New(rand.NewSource(seed))
	l := ringOf(t, upTo(64), 32)
	for _, n := range []int{255, 256, 257, 1 << 16, 1 << 20} {
		wantLikeSlow(t, l, drawn(r, n))
	}
}

// P13.3

// manyKeys are keys whose sums are all around the ring, and between points that are close to one another.
func manyKeys() []string {
	r := rand.New(rand.NewSource(seed))
	l := someKeys()
	for i := range 200 {
		l = append(l, drawn(r, 1+r.Intn(40)), fmt.Sprintf("job-%d", i), fmt.Sprintf("%d/%c", i%64, rune(32+r.Intn(90))))
	}
	return l
}

func TestOwnerIsTheFirstOfTheWalk(t *testing.T) {
	for _, nodes := range someNodes() {
		for _, spots := range []int{1, 3, 32} {
			l := ringOf(t, nodes, spots)
			for _, key := range manyKeys() {
				w := walkOf(t, l, key)
				if n := ownerOf(t, l, key); w[0] != n {
					t.Errorf("on the ring of %v, %d %.40q is of %d; its walk: %v", nodes, spots, key, n, w)
				}
				// Each node once, and no other one.
				if s := slices.Sorted(slices.Values(w)); !slices.Equal(s, nodes) {
					t.Errorf("on the ring of %v, %d the walk of %.40q: %v", nodes, spots, key, w)
				}
			}
		}
	}
}

// wantMore fails if, with a node more, a key is another one's that was there.
func wantMore(t *testing.T, less, more []api.Point, n int, keys []string) (stayed, went int) {
	t.Helper()
	for _, key := range keys {
		switch was, is := ownerOf(t, less, key), ownerOf(t, more, key); is {
		case was:
			stayed++
		case n:
			went++
		default:
			t.Errorf("with node %d more %.40q is of %d; it was of %d", n, key, is, was)
		}
	}
	return stayed, went
}

// wantLess fails if, with a node less, a key is another one's than that which its walk tells, or the walk is not as it was but for that node.
func wantLess(t *testing.T, more, less []api.Point, n int, keys []string) {
	t.Helper()
	for _, key := range keys {
		w := walkOf(t, more, key)
		want := w[0]
		if want == n {
			want = w[1]
		}
		if is := ownerOf(t, less, key); is != want {
			t.Errorf("with node %d less %.40q is of %d; want %d, by %v", n, key, is, want, w)
		}
		if left := walkOf(t, less, key); !slices.Equal(left, without(w, n)) {
			t.Errorf("with node %d less the walk of %.40q is %v; it was %v", n, key, left, w)
		}
	}
}

func TestANodeMore(t *testing.T) {
	keys := manyKeys()
	stayed, went := 0, 0
	for _, nodes := range [][]int{{0}, {63}, {3, 12}, {9, 10, 11}, {0, 1, 2, 3, 4}, upTo(63)} {
		for _, spots := range []int{1, 2, 32} {
			l := ringOf(t, nodes, spots)
			for n := range 64 {
				if !slices.Contains(nodes, n) {
					s, w := wantMore(t, l, ringOf(t, withNode(nodes, n), spots), n, keys)
					stayed, went = stayed+s, went+w
				}
			}
		}
	}
	if stayed < 1000 || went < 1000 {
		t.Errorf("%d stayed, %d went", stayed, went)
	}
}

func TestANodeLess(t *testing.T) {
	keys := manyKeys()
	for _, nodes := range [][]int{{0, 63}, {3, 12}, {9, 10, 11}, {0, 1, 2, 3, 4}, {5, 17, 40, 62}, upTo(64)} {
		for _, spots := range []int{1, 2, 32} {
			l := ringOf(t, nodes, spots)
			for _, n := range nodes {
				if len(nodes) == 64 && n%9 > 0 {
					continue
				}
				less := ringOf(t, without(nodes, n), spots)
				wantStays(t, "a node less", less, withoutNode(l, n))
				wantLess(t, l, less, n, keys)
			}
		}
	}
}

func TestANodeMoreAndLessOfPointsThatAreDrawn(t *testing.T) {
	r := rand.New(rand.NewSource(seed))
	all := someKeys()
	for range 1000 {
		keys := []string{all[r.Intn(len(all))], all[r.Intn(len(all))], drawn(r, r.Intn(20)), ""}
		l := drawnPoints(r, 2+r.Intn(20), 2+r.Intn(8), keys)
		n := l[r.Intn(len(l))].Node
		less := withoutNode(l, n)
		if len(less) == 0 {
			wantRefused(t, less, keys[0], api.ErrNone)
			continue
		}
		wantLess(t, l, less, n, keys)
		wantMore(t, less, l, n, keys)
	}
}

func TestNodesThatGoOneByOne(t *testing.T) {
	// Who goes is always the owner: then owners are told by the first walk, one after the other.
	for _, key := range []string{"", "job-1", "mail", "\xff", zeroSum} {
		nodes := upTo(64)
		walk := walkOf(t, ringOf(t, nodes, 8), key)
		for _, want := range walk {
			n := ownerOf(t, ringOf(t, nodes, 8), key)
			if n != want {
				t.Fatalf("of %v %q is of %d; want %d", nodes, key, n, want)
			}
			nodes = without(nodes, n)
		}
		wantRefused(t, ringOf(t, nodes, 8), key, api.ErrNone)
	}
}

// R3, R4

func TestWhatIsHandedInStaysAsItWas(t *testing.T) {
	// Behind both there is room, that has something else.
	for n := range 6 {
		nodesRoom := []int{2, 4, 9, 33, 63, 70, 2}
		wasNodes := slices.Clone(nodesRoom)
		for _, spots := range []int{0, 1, 3, 32, 33} {
			l, _ := Points(nodesRoom[:n], spots)
			spoilPoints(l)
			wantStays(t, "what came of Points", nodesRoom, wasNodes)
		}
		room := append(rowOf(5), api.Point{Hash: 3, Node: 77}, api.Point{Hash: 2, Node: -1})
		was := slices.Clone(room)
		for _, key := range []string{"", "k", zeroSum, "mail"} {
			Check(room[:n])
			Place(room[:n], key)
			Owner(room[:n], key)
			w, _ := Walk(room[:n], key)
			spoilNodes(w)
			wantStays(t, "what came of Check, Place, Owner, or Walk,", room, was)
		}
	}
}

// spoilPoints changes points that were answered, and the room behind them.
func spoilPoints(l []api.Point) {
	l = l[:cap(l)]
	for at := range l {
		l[at] = api.Point{Hash: 1, Node: -5, I: 99}
	}
}

// spoilNodes changes nodes that were answered, and the room behind them.
func spoilNodes(l []int) {
	l = l[:cap(l)]
	for at := range l {
		l[at] = -7
	}
}

func TestAnswersShareNothing(t *testing.T) {
	for _, nodes := range someNodes() {
		for _, spots := range []int{1, 32} {
			first := ringOf(t, nodes, spots)
			second := ringOf(t, nodes, spots)
			kept := slices.Clone(second)
			spoilPoints(first)
			wantStays(t, "what came of another call of Points", second, kept)
			wantPoints(t, nodes, spots, kept, api.OK)
			one, two := walkOf(t, second, "k"), walkOf(t, second, "k")
			keptWalk := slices.Clone(two)
			spoilNodes(one)
			wantStays(t, "what came of another call of Walk", two, keptWalk)
			wantStays(t, "what came of Walk", second, kept)
			wantLikeSlow(t, second, "k")
		}
	}
}

func TestWhatIsHandedInMayBeChangedBehindTheCall(t *testing.T) {
	nodes := []int{3, 12}
	l := ringOf(t, nodes, 2)
	clear(nodes)
	wantStays(t, "a change to the nodes", l, slowPoints([]int{3, 12}, 2))
	want := slowWalk(l, "k")
	w := walkOf(t, l, "k")
	clear(l)
	wantStays(t, "a change to the points", w, want)
}

func TestAnswersComeAgain(t *testing.T) {
	r := rand.New(rand.NewSource(seed))
	keys := someKeys()
	bad := badPoints()
	for range 500 {
		nodes, spots := drawnNodes(r, 64), r.Intn(35)
		l, e := Points(nodes, spots)
		wantPoints(t, nodes, spots, l, e)
		p, key := drawnPoints(r, 1+r.Intn(40), 64, keys), keys[r.Intn(len(keys))]
		if r.Intn(4) == 0 {
			p = bad[r.Intn(len(bad))]
		}
		wantCheck(t, p, Check(p))
		at, e := Place(p, key)
		n, eOwner := Owner(p, key)
		w, eWalk := Walk(p, key)
		if eOwner != e || eWalk != e {
			t.Errorf("of %v, %.40q: %d, %d, %d", few(p), key, e, eOwner, eWalk)
		}
		wantFound(t, p, key, at, n, w, e)
	}
}
