package msg

import (
	"math/rand"
	"sync"
	"testing"

	"tattle/api"
)

// P10.3: what follows.

func TestWhatIsWrittenIsReadAsItWas(t *testing.T) {
	r := rand.New(rand.NewSource(seed))
	for kind := firstKind; kind <= lastKind; kind++ {
		for range 1000 {
			m := drawn(r, kind)
			s, e := Write(m)
			if e != api.OK {
				t.Fatalf("Write(%v): %d", m, e)
			}
			wantRead(t, s, m)
			if x, _ := Read(s); !Same(x, m) {
				t.Errorf("%v, written and read: %v", m, x)
			}
		}
	}
}

func TestWhatIsReadIsWrittenAsTheSameText(t *testing.T) {
	r := rand.New(rand.NewSource(seed))
	for kind := firstKind; kind <= lastKind; kind++ {
		for range 1000 {
			s := sealed(octetsOf(drawn(r, kind)))
			m, e := Read(s)
			if e != api.OK {
				t.Fatalf("Read(%x): %d", s, e)
			}
			if x, e := Write(m); x != s || e != api.OK {
				t.Errorf("%x, read and written: %x, %d", s, x, e)
			}
		}
	}
}

// wantSpoilt fails if a text, of which those bits are turned, is a message.
func wantSpoilt(t *testing.T, s string, bit int, pattern uint32) {
	t.Helper()
	if x, ok := spoilt(s, bit, pattern); ok {
		wantNone(t, x, api.ErrSum)
	}
}

func TestSpoiltIsNoMessage(t *testing.T) {
	r := rand.New(rand.NewSource(seed))
	for _, m := range some() {
		s := sealed(octetsOf(m))
		for bit := range 8 * len(s) {
			for _, pattern := range []uint32{1, 3, 0xff, 1<<31 | 1, 0xffffffff, 0xedb88320, 0x04c11db7, 0xdebb20e3, r.Uint32() | 1, r.Uint32() | 1} {
				wantSpoilt(t, s, bit, pattern)
			}
		}
	}
}

func TestSpoiltAtEachTwoOf32BitsIsNoMessage(t *testing.T) {
	for kind := firstKind; kind <= lastKind; kind++ {
		s := sealed(octetsOf(usual(kind)))
		for bit := range 8 * len(s) {
			for i := range 32 {
				wantSpoilt(t, s, bit, 1<<i|1)
				wantSpoilt(t, s, bit, ^uint32(0)>>i)
			}
		}
	}
}

func TestSpoiltOfDrawnMessagesIsNone(t *testing.T) {
	r := rand.New(rand.NewSource(seed))
	for range 30000 {
		s := sealed(octetsOf(drawn(r, 1+r.Intn(12))))
		wantSpoilt(t, s, r.Intn(8*len(s)), r.Uint32()|1)
	}
}

// R3 and R4: what is handed in stays as it was, and a call's answer hangs on its arguments alone.

// scribble writes over all that a message has beside it.
func scribble(m api.Msg) {
	for i := range m.News {
		m.News[i] = told(-1, known(9, 9))
	}
	for i := range m.Table {
		m.Table[i] = known(9, 9)
	}
}

func TestWhatIsHandedInStays(t *testing.T) {
	r := rand.New(rand.NewSource(seed))
	for range 3000 {
		m := drawn(r, 1+r.Intn(12))
		was := clone(m)
		s, _ := Write(m)
		x, e := Read(s)
		if e != api.OK {
			t.Fatalf("Read(%x): %d", s, e)
		}
		scribble(x)
		wantStays(t, "Read", m, was)
		wantRead(t, s, was)
		// What was answered stays when the argument is written over behind the call.
		scribble(m)
		wantRead(t, s, was)
	}
}

// Behind a list's last one there may be room that is its owner's.
func TestRoomBehindListsStays(t *testing.T) {
	for _, m := range some() {
		news := append(m.News[:len(m.News):len(m.News)], told(7, known(7, 2)))
		table := append(m.Table[:len(m.Table):len(m.Table)], known(7, 2))
		m.News, m.Table = news[:len(news)-1], table[:len(table)-1]
		wantMay(t, m)
		wantSame(t, m, clone(m), true)
		if news[len(news)-1] != told(7, known(7, 2)) || table[len(table)-1] != known(7, 2) {
			t.Errorf("what stands behind the lists of %v was changed: %v, %v", m, news, table)
		}
	}
}

func TestAnswersShareNothing(t *testing.T) {
	for _, m := range some() {
		s := sealed(octetsOf(m))
		x, _ := Read(s)
		y, _ := Read(s)
		scribble(x)
		if !equal(y, m) {
			t.Errorf("what was read of %x is %v, as another answer was written over", s, y)
		}
		wantRead(t, s, m)
	}
}

func TestAnswersComeAgain(t *testing.T) {
	for _, m := range some() {
		s, e := Write(m)
		for range 50 {
			Check(api.Msg{Kind: 1, Good: true})
			Read("spoilt")
			Name("another")
			if x, f := Write(m); x != s || f != e {
				t.Errorf("Write(%v), asked again: %x, %d; first %x, %d", m, x, f, s, e)
			}
			wantRead(t, s, m)
		}
	}
}

// Calls that go on at once are as they are alone.
func TestCallsAtOnce(t *testing.T) {
	var all sync.WaitGroup
	for _, m := range some() {
		all.Add(1)
		go func() {
			defer all.Done()
			for range 50 {
				wantMay(t, m)
				wantMayNot(t, api.Msg{Kind: m.Kind, To: 64})
				wantSame(t, m, clone(m), true)
			}
		}()
	}
	all.Wait()
}
