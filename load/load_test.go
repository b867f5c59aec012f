package load

import (
	"fmt"
	library "hash/fnv"
	"math"
	"math/rand"
	"slices"
	"strings"
	"testing"

	"tattle/api"
)

// The tests' draws are from this seed, so that a failure comes again.
const seed = 1

// inNames are all octets that stand in tasks' names, rising.
const inNames = "-0123456789abcdefghijklmnopqrstuvwxyz"

// badNumbers are no nodes' numbers.
var badNumbers = []int{-1, 64, 65, -2, -63, -64, 127, 128, 255, 256, 319, 1 << 31, -1 << 31, 1 << 32, 1<<32 + 5, -1 << 32, -1<<32 + 5, math.MinInt, math.MinInt + 1, math.MaxInt - 1, math.MaxInt}

// badSpots are how many points no node has.
var badSpots = []int{0, -1, 33, 34, -2, -31, -32, 64, 255, 256, 257, 288, 1 << 31, -1 << 31, 1 << 32, 1<<32 + 1, 1<<32 + 32, -1 << 32, -1<<32 + 1, math.MinInt, math.MinInt + 1, math.MaxInt - 1, math.MaxInt}

// upTo are n numbers from 0 on.
func upTo(n int) []int {
	var l []int
	for i := range n {
		l = append(l, i)
	}
	return l
}

// but is a list with something else at a place.
func but[T any](l []T, at int, x T) []T {
	then := slices.Clone(l)
	then[at] = x
	return then
}

// with is a list with one more at a place.
func with[T any](l []T, at int, x T) []T { return slices.Insert(slices.Clone(l), at, x) }

// swapped is a list of which two have changed places.
func swapped[T any](l []T, i, j int) []T {
	then := slices.Clone(l)
	then[i], then[j] = then[j], then[i]
	return then
}

// few is as much of a list as a failure shows.
func few[T any](l []T) []T { return l[:min(len(l), 8)] }

// row is n tasks that may be, if n is at most 100; behind each one there is room for others.
func row(n int) []string {
	var l []string
	for i := range n {
		l = append(l, fmt.Sprintf("%04d-x", i))
	}
	return l
}

// placed is each of these tasks on a node.
func placed(l []string) []api.Put {
	var puts []api.Put
	for i, task := range l {
		puts = append(puts, api.Put{Task: task, Node: (i * 37) % 64})
	}
	return puts
}

// badNames are no tasks' names; each one stands behind what it begins with, and ahead of all that are behind that.
func badNames(begin string) []string {
	l := []string{
		begin + strings.Repeat("z", 21-len(begin)),
		begin + strings.Repeat("z", 22-len(begin)),
		begin + strings.Repeat("z", 255),
		begin + strings.Repeat("z", 256),
		begin + strings.Repeat("z", 257),
		begin + "é", begin + "世", begin + "\ufffd", begin + "\u0430", begin + "ａ",
	}
	for c := range 256 {
		if strings.IndexByte(inNames, byte(c)) < 0 {
			octet := string([]byte{byte(c)})
			l = append(l, begin+octet, begin+octet+"z", begin+"a"+octet)
		}
	}
	return l
}

// goodTasks are tasks that may be, of each kind.
func goodTasks() [][]string {
	lists := [][]string{
		nil, {}, row(5)[:0],
		{"a"}, {"-"}, {"0"}, {"z"}, {"--------------------"}, {strings.Repeat("z", 20)},
		{"a", "b"}, {"a", "ab"}, {"a", "a-"}, {"a-", "a0"}, {"a9", "aa"}, {"-", "0"}, {"9", "a"}, {"10", "9"}, {"a10", "a9"}, {"aa", "b"}, {"aaaaaaaaaaaaaaaaaaaa", "b"},
		{"a9", "b0"}, {strings.Repeat("a", 19), strings.Repeat("a", 20)}, {strings.Repeat("a", 19) + "b", strings.Repeat("a", 19) + "c"}, {"a" + strings.Repeat("z", 19), "b" + strings.Repeat("-", 19)},
		strings.Split(inNames, ""),
		{"a", "aa", "aaa", "aaaa"}, {"a", "a-", "a0", "aa", "b"},
	}
	for _, n := range []int{1, 2, 3, 63, 64, 65, 99, 100} {
		lists = append(lists, row(n))
	}
	return lists
}

// badTasks are tasks that may not be: a name that is none at each place, out of order, one twice, and too many.
func badTasks() [][]string {
	lists := [][]string{
		{""}, {"", "a"}, {"a", ""}, {"", ""}, {"", "a", "b"}, {"a", "", "b"}, {"a", "b", ""},
		{"b", "a"}, {"a", "a"}, {"ab", "a"}, {"a-", "a"}, {"a0", "a-"}, {"aa", "a9"}, {"0", "-"}, {"a", "9"}, {"9", "10"}, {"a9", "a10"}, {"b", "aa"}, {"b", "aaaaaaaaaaaaaaaaaaaa"},
		{"b0", "a9"}, {strings.Repeat("a", 20), strings.Repeat("a", 19)}, {strings.Repeat("a", 19) + "c", strings.Repeat("a", 19) + "b"}, {"b" + strings.Repeat("-", 19), "a" + strings.Repeat("z", 19)},
		{strings.Repeat("a", 20), strings.Repeat("a", 20)},
		{"b", "c", "a"}, {"a", "c", "b"}, {"a", "b", "a"}, {"a", "a", "b"}, {"a", "b", "b"}, {"b", "a", "c"}, {"a", "b", "c", "c"},
		{"A"}, {"_"}, {"a b"}, {" a"}, {"a "}, {"a\n"}, {"a/b"}, {"a.b"},
		make([]string, 100), make([]string, 101),
	}
	for _, n := range []int{101, 102, 128, 200, 255, 256, 257, 356, 1000} {
		lists = append(lists, row(n))
	}
	for _, x := range badNames("") {
		lists = append(lists, []string{x})
	}
	for _, n := range []int{2, 3, 100} {
		for _, at := range []int{0, n / 2, n - 1} {
			for _, x := range badNames(row(n)[at]) {
				lists = append(lists, but(row(n), at, x))
			}
		}
	}
	for at := range 100 {
		begin := row(100)[at]
		lists = append(lists, but(row(100), at, ""), but(row(100), at, begin+"A"), but(row(100), at, begin+strings.Repeat("z", 15)), with(row(99), at, "\xff"))
	}
	for at := range 99 {
		next := row(100)[at+1]
		lists = append(lists, swapped(row(100), at, at+1), but(row(100), at, next), with(row(99), at, row(99)[at]))
	}
	return lists
}

// goodNodes are nodes that may be, of each size of note.
func goodNodes() [][]int {
	return [][]int{{0}, {9}, {63}, {0, 63}, {3, 12}, {9, 10}, {1, 11, 12}, {1, 2, 3, 4}, {0, 1, 2, 3, 4}, {5, 17, 40, 62}, upTo(11), upTo(63), upTo(64), upTo(64)[1:]}
}

// badNodes are nodes that may not be: a number that is none at each place, out of order, one twice, and too many.
func badNodes() [][]int {
	lists := [][]int{{63, 0}, {1, 0}, {63, 62}, {0, 2, 1}, {2, 0, 1}, {1, 2, 0}, {0, 0}, {63, 63}, {0, 1, 1}, {1, 1, 2}, {0, 1, 0}}
	for _, n := range []int{1, 2, 3} {
		for at := range n {
			for _, x := range badNumbers {
				lists = append(lists, but(upTo(n), at, x))
			}
		}
	}
	for at := range 64 {
		lists = append(lists, but(upTo(64), at, -1), but(upTo(64), at, 64), with(upTo(64), at, at), with(upTo(64), at, 64), with(upTo(64), at, -1))
	}
	for at := range 63 {
		lists = append(lists, swapped(upTo(64), at, at+1), but(upTo(64), at, at+1), but(upTo(64), at+1, at))
	}
	for _, n := range []int{65, 66, 128, 1000} {
		lists = append(lists, upTo(n), make([]int, n))
	}
	return lists
}

// drawnNodes are one or more nodes below so many.
func drawnNodes(r *rand.Rand, below int) []int {
	l := r.Perm(below)[:1+r.Intn(below)]
	slices.Sort(l)
	return l
}

// drawnName is a task's name.
func drawnName(r *rand.Rand) string {
	b := make([]byte, 1+r.Intn(20))
	for i := range b {
		b[i] = inNames[r.Intn(len(inNames))]
	}
	return string(b)
}

// drawnTasks are tasks that may be, so many at the most.
func drawnTasks(r *rand.Rand, most int) []string {
	var l []string
	for range r.Intn(most + 1) {
		l = append(l, drawnName(r))
	}
	slices.Sort(l)
	return slices.Compact(l)
}

// The slow models call no layer below.

// slowAhead says whether a text comes ahead of another one, octet by octet.
func slowAhead(a, b string) bool {
	for i := range len(b) {
		if i >= len(a) || a[i] != b[i] {
			return i >= len(a) || a[i] < b[i]
		}
	}
	return false
}

// slowTasks says whether tasks may be.
func slowTasks(l []string) bool {
	for at, task := range l {
		if len(task) < 1 || len(task) > 20 || at > 0 && !slowAhead(l[at-1], task) {
			return false
		}
		for i := range len(task) {
			if strings.IndexByte(inNames, task[i]) < 0 {
				return false
			}
		}
	}
	return len(l) <= 100
}

// slowCheck says whether what is put may be.
func slowCheck(l []api.Put) bool {
	var names []string
	for _, p := range l {
		if p.Node < 0 || p.Node > 63 {
			return false
		}
		names = append(names, p.Task)
	}
	return slowTasks(names)
}

// slowBound is the least number that, four times by the nodes, is no less than five times the tasks.
func slowBound(t, n int) int {
	most := 0
	for 4*n*most < 5*t {
		most++
	}
	return most
}

// slowSum is the library's own sum of a text.
func slowSum(s string) uint64 {
	h := library.New64a()
	h.Write([]byte(s))
	return h.Sum64()
}

// slowRing is the points of nodes, in order.
func slowRing(nodes []int, spots int) []api.Point {
	var l []api.Point
	for _, n := range nodes {
		for i := range spots {
			l = append(l, api.Point{Hash: slowSum(fmt.Sprintf("%d/%d", n, i)), Node: n, I: i})
		}
	}
	// No two of the 2048 points that there may be have the same Hash.
	slices.SortFunc(l, func(a, b api.Point) int {
		if a.Hash < b.Hash {
			return -1
		}
		return 1
	})
	return l
}

// slowWalk goes along the points from a task's place on, and then from the first one on.
func slowWalk(l []api.Point, task string) []int {
	h := slowSum(task)
	from := 0
	for from < len(l) && l[from].Hash < h {
		from++
	}
	var walk []int
	for _, p := range slices.Concat(l[from:], l[:from]) {
		if !slices.Contains(walk, p.Node) {
			walk = append(walk, p.Node)
		}
	}
	return walk
}

// slowAssign puts tasks on nodes, of which there are some, and tells how many full ones each task has passed.
func slowAssign(nodes []int, spots int, l []string) (puts []api.Put, passed []int) {
	points := slowRing(nodes, spots)
	most := slowBound(len(l), len(nodes))
	for _, task := range l {
		walk := slowWalk(points, task)
		at := 0
		for slowHas(puts, walk[at]) >= most {
			at++
		}
		puts = append(puts, api.Put{Task: task, Node: walk[at]})
		passed = append(passed, at)
	}
	return puts, passed
}

// slowHas is how many tasks are put on a node.
func slowHas(l []api.Put, node int) int {
	n := 0
	for _, p := range l {
		if p.Node == node {
			n++
		}
	}
	return n
}

// wantStays fails if a list that was handed in is not as it was.
func wantStays[T comparable](t *testing.T, call string, l, was []T) {
	t.Helper()
	if !slices.Equal(l, was) {
		t.Errorf("%s changed %v to %v", call, few(was), few(l))
	}
}

func wantTasks(t *testing.T, l []string, want api.Errno) {
	t.Helper()
	was := slices.Clone(l)
	if e := Tasks(l); e != want {
		t.Errorf("Tasks(%d: %.40q): %d; want %d", len(l), few(l), e, want)
	}
	wantStays(t, "Tasks", l, was)
}

func wantCheck(t *testing.T, l []api.Put, want api.Errno) {
	t.Helper()
	was := slices.Clone(l)
	if e := Check(l); e != want {
		t.Errorf("Check(%d: %.40v): %d; want %d", len(l), few(l), e, want)
	}
	wantStays(t, "Check", l, was)
}

func wantBound(t *testing.T, tasks, nodes, want int, wantE api.Errno) {
	t.Helper()
	if most, e := Bound(tasks, nodes); most != want || e != wantE {
		t.Errorf("Bound(%d, %d): %d, %d; want %d, %d", tasks, nodes, most, e, want, wantE)
	}
}

func wantAssign(t *testing.T, nodes []int, spots int, l []string, want []api.Put, wantE api.Errno) {
	t.Helper()
	wasNodes, was := slices.Clone(nodes), slices.Clone(l)
	puts, e := Assign(nodes, spots, l)
	if !slices.Equal(puts, want) || e != wantE {
		t.Errorf("Assign(%d: %v, %d, %d: %.40q): %d: %v, %d; want %d: %v, %d", len(nodes), few(nodes), spots, len(l), few(l), len(puts), few(puts), e, len(want), few(want), wantE)
	}
	wantStays(t, "Assign", nodes, wasNodes)
	wantStays(t, "Assign", l, was)
}

func wantOf(t *testing.T, l []api.Put, task string, want int, wantE api.Errno) {
	t.Helper()
	was := slices.Clone(l)
	if n, e := Of(l, task); n != want || e != wantE {
		t.Errorf("Of(%d: %.40v, %.40q): %d, %d; want %d, %d", len(l), few(l), task, n, e, want, wantE)
	}
	wantStays(t, "Of", l, was)
}

// wantLikeSlow fails if tasks are not put as the slow model has it; it answers how many full nodes each one has passed.
func wantLikeSlow(t *testing.T, nodes []int, spots int, l []string) []int {
	t.Helper()
	puts, passed := slowAssign(nodes, spots, l)
	wantAssign(t, nodes, spots, l, puts, api.OK)
	return passed
}

// The chapter's examples

func TestExamples(t *testing.T) {
	wantBound(t, 4, 2, 3, api.OK)
	for n := range 64 {
		wantBound(t, 0, n+1, 0, api.OK)
		for _, spots := range []int{1, 2, 32} {
			wantAssign(t, []int{n}, spots, []string{"a", "b"}, []api.Put{{Task: "a", Node: n}, {Task: "b", Node: n}}, api.OK)
		}
	}
	wantAssign(t, nil, 1, []string{"a"}, nil, api.ErrNone)
}
