package msg

import (
	"math"
	"math/rand"
	"slices"
	"testing"

	"tattle/api"
)

// P10.1: Check.

func TestCheckOfTheExample(t *testing.T) {
	wantMay(t, api.Msg{Kind: api.NackM, From: 1, To: 2, Seq: 5, Who: 3})
	wantMayNot(t, api.Msg{Kind: api.NackM, From: 1, To: 1, Seq: 5, Who: 3})
	wantMayNot(t, api.Msg{})
}

func TestCheckOfEachKind(t *testing.T) {
	for _, m := range some() {
		wantMay(t, m)
		for _, kind := range badKinds {
			m.Kind = kind
			wantMayNot(t, m)
		}
	}
	for _, kind := range badKinds {
		wantMayNot(t, api.Msg{Kind: kind, To: 1})
	}
}

// takes: does a kind have all parts of another one, and of these that may not be zero no more?
func takes(kind, other int) bool {
	for _, part := range allParts {
		inKind, inOther := slices.Contains(has[kind], part), slices.Contains(has[other], part)
		if inOther && !inKind || inKind && !inOther && (part == "Table" || part == "Task") {
			return false
		}
	}
	return true
}

func TestCheckOfOneKindAsAnother(t *testing.T) {
	for kind := firstKind; kind <= lastKind; kind++ {
		for other := firstKind; other <= lastKind; other++ {
			for _, m := range []api.Msg{usual(kind), most(kind)} {
				m.Kind = other
				wantMayIf(t, m, takes(other, kind))
			}
			m := least(kind)
			m.Kind = other
			wantMayIf(t, m, slowMay(m))
		}
	}
}

func TestCheckOfFromAndTo(t *testing.T) {
	for _, m := range some() {
		for from := range 64 {
			for _, to := range []int{0, 1, 31, 62, 63, from} {
				m.From, m.To = from, to
				wantMayIf(t, m, from != to)
				m.From, m.To = to, from
				wantMayIf(t, m, from != to)
			}
		}
		for _, bad := range badNodes {
			for _, node := range []int{0, 5, 63, bad} {
				m.From, m.To = bad, node
				wantMayNot(t, m)
				m.From, m.To = node, bad
				wantMayNot(t, m)
			}
		}
	}
}

// Each part that a kind has takes each value that it may be, and no other one; each other part is zero.
func TestCheckOfEachValueOfEachPart(t *testing.T) {
	for _, v := range values() {
		zero := v.zero()
		for kind := firstKind; kind <= lastKind; kind++ {
			may := zero
			if slices.Contains(has[kind], v.part) {
				may = v.may
			}
			for _, m := range []api.Msg{least(kind), usual(kind), most(kind)} {
				wantMayIf(t, v.with(m), may)
			}
		}
	}
}

func TestCheckOfAPartThatItHasNot(t *testing.T) {
	others := map[string][]value{
		"Seq":   {seqOf(1), seqOf(1 << 32), seqOf(1 << 63), seqOf(greatest)},
		"Who":   {whoOf(1, true), whoOf(63, true), whoOf(-1, false), whoOf(64, false), whoOf(1<<32, false), whoOf(math.MinInt, false)},
		"K":     {knowOf(known(1, 0), true), knowOf(known(0, 1), true), knowOf(known(0, 3), true), knowOf(known(greatest, 0), true), knowOf(known(0, -1), false), knowOf(known(0, 4), false)},
		"News":  {newsOf([]api.News{{}}, true), newsOf(make([]api.News, 8), true), newsOf(make([]api.News, 9), false)},
		"Table": {tableOf([]api.Know{{}}, true), tableOf(make([]api.Know, 64), true), tableOf(make([]api.Know, 65), false)},
		"Epoch": {epochOf(1), epochOf(1 << 32), epochOf(1 << 63), epochOf(greatest)},
		"Boot":  {bootOf(1), bootOf(1 << 32), bootOf(1 << 63), bootOf(greatest)},
		"Asked": {askedOf(1, true), askedOf(last, true), askedOf(-1, false), askedOf(last+1, false), askedOf(1<<32, true), askedOf(math.MinInt64, false)},
		"Task":  {taskOf("a", true), taskOf("job-1", true), taskOf("A", false), taskOf("\x00", false)},
		"Token": {tokenOf(1), tokenOf(1 << 32), tokenOf(1 << 63), tokenOf(greatest)},
		"Good":  {goodOf(true)},
	}
	for _, m := range some() {
		for _, part := range allParts {
			if slices.Contains(has[m.Kind], part) {
				continue
			}
			for _, v := range others[part] {
				wantMayNot(t, v.with(m))
			}
		}
	}
}

// Two faults at once are no better than one.
func TestCheckOfTwoValuesAtOnce(t *testing.T) {
	r := rand.New(rand.NewSource(seed))
	l := values()
	for range 20000 {
		m := drawn(r, 1+r.Intn(12))
		m = anyOf(r, l).with(anyOf(r, l).with(m))
		wantMayIf(t, m, slowMay(m))
	}
}

func TestCheckOfEmptyLists(t *testing.T) {
	for _, m := range some() {
		if len(m.News) == 0 {
			m.News = []api.News{}
		}
		if len(m.Table) == 0 {
			m.Table = []api.Know{}
		}
		wantMay(t, m)
	}
}

// P10.1: Same.

// sameValues are values of each part, no two of them the same, of which some may not be.
func sameValues() map[string][]value {
	l := map[string][]value{"Good": {goodOf(false), goodOf(true)}}
	for _, n := range edgeNumbers {
		l["Seq"] = append(l["Seq"], seqOf(n))
		l["Epoch"] = append(l["Epoch"], epochOf(n))
		l["Boot"] = append(l["Boot"], bootOf(n))
		l["Token"] = append(l["Token"], tokenOf(n))
		l["K"] = append(l["K"], knowOf(known(n, 0), true), knowOf(known(n, 3), true), knowOf(known(n, 4), false), knowOf(known(n, -1), false))
	}
	for _, n := range slices.Concat(edgeNodes, badNodes) {
		l["Who"] = append(l["Who"], whoOf(n, true))
	}
	for _, n := range slices.Concat(edgeTicks, badTicks) {
		l["Asked"] = append(l["Asked"], askedOf(n, true))
	}
	for _, s := range slices.Concat(goodNames, badNames) {
		l["Task"] = append(l["Task"], taskOf(s, true))
	}
	for _, n := range []int{0, 1, 2, 3, 8, 9, 64, 65} {
		l["News"] = append(l["News"], newsOf(someNews(n), true))
		l["Table"] = append(l["Table"], tableOf(someTable(n), true))
	}
	return l
}

func TestSameOfMessagesThatDifferInOnePart(t *testing.T) {
	l := sameValues()
	for _, m := range some() {
		for _, part := range allParts {
			for i, x := range l[part] {
				for j, y := range l[part] {
					wantSame(t, x.with(m), y.with(m), i == j)
				}
			}
		}
	}
}

func TestSameOfKindFromAndTo(t *testing.T) {
	numbers := slices.Concat([]int{1, 2, 3, 4, 5, 12, 13, 63, 64}, badNodes[4:])
	numbers = append(numbers, 0, -1)
	slices.Sort(numbers)
	numbers = slices.Compact(numbers)
	for _, x := range numbers {
		for _, y := range numbers {
			wantSame(t, api.Msg{Kind: x, To: 1}, api.Msg{Kind: y, To: 1}, x == y)
			wantSame(t, api.Msg{Kind: 4, From: x, To: 1}, api.Msg{Kind: 4, From: y, To: 1}, x == y)
			wantSame(t, api.Msg{Kind: 4, From: 1, To: x}, api.Msg{Kind: 4, From: 1, To: y}, x == y)
			wantSame(t, api.Msg{Kind: 4, From: x, To: y}, api.Msg{Kind: 4, From: y, To: x}, x == y)
		}
	}
}

// No part stands for another one.
func TestSameOfOnePartAndAnother(t *testing.T) {
	l := []api.Msg{{}, {Kind: 1}, {From: 1}, {To: 1}, {Seq: 1}, {Who: 1}, {K: known(1, 0)}, {K: known(0, 1)}, {News: make([]api.News, 1)}, {Table: make([]api.Know, 1)}, {Epoch: 1}, {Boot: 1}, {Asked: 1}, {Task: "1"}, {Token: 1}, {Good: true}}
	for i, a := range l {
		for j, b := range l {
			wantSame(t, a, b, i == j)
		}
	}
}

func TestSameOfNewsAndATableThatDifferAtOnePlace(t *testing.T) {
	for _, m := range []api.Msg{least(api.PingM), usual(api.AckM), usual(api.PullM), {}} {
		for _, n := range []int{1, 2, 8, 9, 64, 65} {
			m.News, m.Table = someNews(n), someTable(n)
			wantSame(t, m, clone(m), true)
			for at := range n {
				x, k := m.News[at], m.Table[at]
				for _, y := range []api.News{told(x.Who+1, x.K), told(-1, x.K), told(x.Who, known(x.K.Inc+1, x.K.State)), told(x.Who, known(x.K.Inc, x.K.State+1)), told(x.Who, known(x.K.Inc+1<<32, x.K.State)), told(x.Who+1<<32, x.K)} {
					wantSame(t, m, newsOf(but(m.News, at, y), true).with(m), false)
				}
				for _, y := range []api.Know{known(k.Inc+1, k.State), known(k.Inc, k.State+1), known(k.Inc, -1), known(k.Inc+1<<32, k.State)} {
					wantSame(t, m, tableOf(but(m.Table, at, y), true).with(m), false)
				}
				wantSame(t, m, newsOf(slices.Delete(slices.Clone(m.News), at, at+1), true).with(m), false)
				wantSame(t, m, tableOf(slices.Delete(slices.Clone(m.Table), at, at+1), true).with(m), false)
			}
			wantSame(t, m, newsOf(append(slices.Clone(m.News), m.News[n-1]), true).with(m), false)
			wantSame(t, m, tableOf(append(slices.Clone(m.Table), m.Table[n-1]), true).with(m), false)
		}
	}
}

func TestSameOfNewsInAnotherOrder(t *testing.T) {
	x, y := told(1, known(2, 0)), told(2, known(2, 1))
	m := usual(api.PingM)
	m.News = []api.News{x, y}
	wantSame(t, m, newsOf([]api.News{y, x}, true).with(m), false)
	wantSame(t, m, newsOf([]api.News{x, y}, true).with(m), true)
	m.Table = []api.Know{x.K, y.K}
	wantSame(t, m, tableOf([]api.Know{y.K, x.K}, true).with(m), false)
}

func TestSameOfListsThatAreNoneAndThatAreEmpty(t *testing.T) {
	for _, m := range append(some(), api.Msg{}, api.Msg{Kind: -1}) {
		for _, news := range [][]api.News{nil, {}, someNews(3)[:0]} {
			for _, table := range [][]api.Know{nil, {}, someTable(3)[:0]} {
				none, empty := m, m
				none.News, none.Table = nil, nil
				empty.News, empty.Table = news, table
				wantSame(t, none, empty, true)
				wantSame(t, empty, empty, true)
				wantSame(t, newsOf(make([]api.News, 1), true).with(m), newsOf(news, true).with(m), false)
				wantSame(t, tableOf(make([]api.Know, 1), true).with(m), tableOf(table, true).with(m), false)
			}
		}
	}
}

func TestSameOfDrawnMessages(t *testing.T) {
	r := rand.New(rand.NewSource(seed))
	l := values()
	for range 20000 {
		m := drawn(r, 1+r.Intn(12))
		wantSame(t, m, clone(m), true)
		o := anyOf(r, l).with(m)
		wantSame(t, m, o, equal(m, o))
		wantSame(t, o, clone(o), true)
		o = drawn(r, 1+r.Intn(12))
		wantSame(t, m, o, equal(m, o))
	}
}
