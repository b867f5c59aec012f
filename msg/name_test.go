package msg

import (
	"math/rand"
	"strings"
	"testing"
)

// P10.1: Name.

func TestNameOfTheEdgesOfLength(t *testing.T) {
	wantName(t, "", false)
	for n := 1; n <= 20; n++ {
		for _, c := range []string{"a", "z", "0", "9", "-"} {
			wantName(t, strings.Repeat(c, n), true)
		}
	}
	for _, n := range []int{21, 22, 40, 64, 200, 201, 255, 256, 257, 276, 65536, 65537, 1 << 20} {
		wantName(t, strings.Repeat("a", n), false)
	}
}

func TestNameOfNames(t *testing.T) {
	for _, s := range goodNames {
		wantName(t, s, true)
	}
	for _, s := range badNames {
		wantName(t, s, false)
	}
	wantName(t, "abcdefghijklmnopqrst", true)
	wantName(t, "uvwxyz0123456789-", true)
}

func TestNameOfEachOctetAloneAndAtEachPlace(t *testing.T) {
	for o := range 256 {
		c := string([]byte{byte(o)})
		want := o >= 'a' && o <= 'z' || o >= '0' && o <= '9' || o == '-'
		wantName(t, c, want)
		for n := 1; n <= 20; n++ {
			for at := range n {
				wantName(t, strings.Repeat("k", at)+c+strings.Repeat("7", n-1-at), want)
			}
		}
		wantName(t, strings.Repeat("a", 20)+c, false)
		wantName(t, c+strings.Repeat("a", 20), false)
	}
}

func TestNameOfTheFirstAndTheLastOnesAndThoseBeside(t *testing.T) {
	for c, want := range map[string]bool{
		"`": false, "a": true, "b": true, "y": true, "z": true, "{": false,
		"/": false, "0": true, "1": true, "8": true, "9": true, ":": false,
		",": false, "-": true, ".": false, "_": false, " ": false,
		"@": false, "A": false, "Z": false, "[": false,
		"\x00": false, "\x7f": false, "\x80": false, "\xff": false,
	} {
		wantName(t, c, want)
		wantName(t, "job"+c, want)
		wantName(t, c+"job", want)
	}
}

func TestNameOfCapitals(t *testing.T) {
	for o := 'A'; o <= 'Z'; o++ {
		wantName(t, string(o), false)
		wantName(t, "a"+string(o), false)
		wantName(t, string(o)+"a", false)
	}
}

// Letters and digits of other scripts are several octets, none of which is a name's; so are octets that are no letter's.
func TestNameOfOctetsAbove127(t *testing.T) {
	for _, c := range []string{
		"é", "ß", "а", "α", "ａ", "０", "٣", "–", "−", "‐", "字", "𝐚", "ª", "\u00ad", "\ufeff", "\ufffd", "\u0080",
		"\xff", "\x80", "\xc3", "\xe1", "\xc3\x28", "\xc1\xa1", "\xe0\x81\xa1", "\xed\xa0\x80", "\xf4\x90\x80\x80", "\xf0\x9f",
	} {
		wantName(t, c, false)
		for n := 1; n+len(c) <= 21; n++ {
			for at := range n + 1 {
				wantName(t, strings.Repeat("a", at)+c+strings.Repeat("a", n-at), false)
			}
		}
	}
	// Twenty octets, or twenty letters: neither is a name.
	wantName(t, strings.Repeat("é", 10), false)
	wantName(t, strings.Repeat("é", 20), false)
}

func TestNameOfSomeOctets(t *testing.T) {
	r := rand.New(rand.NewSource(seed))
	for range 20000 {
		b := make([]byte, r.Intn(23))
		for i := range b {
			b[i] = "abz019-"[r.Intn(7)]
			if r.Intn(20) == 0 {
				b[i] = byte(r.Intn(256))
			}
		}
		wantName(t, string(b), slowName(string(b)))
	}
}
