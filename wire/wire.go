// Package wire is layer 1: see shared/doc/01-wire.md.
package wire

import (
	"tattle/api"
)

// maxOctets is as many as the octets of a number of 64 bits may be, in groups of seven.
const maxOctets = 10

// sumOctets is how many octets a sum has.
const sumOctets = 4

// sumTable has what four halvings of a register turn in it, by its lowest four bits. Of four, and not of eight, so that it stays short.
var sumTable = [16]uint32{
	0x00000000, 0x1db71064, 0x3b6e20c8, 0x26d930ac,
	0x76dc4190, 0x6b6b51f4, 0x4db26158, 0x5005713c,
	0xedb88320, 0xf00f9344, 0xd6d6a3e8, 0xcb61b38c,
	0x9b64c2b0, 0x86d3d2d4, 0xa00ae278, 0xbdbdf21c,
}

// Num is numbers' octets.
func Num(n ...uint64) string {
	var b []byte
	for _, x := range n {
		for x >= 128 {
			b = append(b, byte(x)|128)
			x >>= 7
		}
		b = append(b, byte(x))
	}
	return string(b)
}

// TakeNum takes a number.
func TakeNum(s string, at int) (uint64, int, api.Errno) {
	if at < 0 || at > len(s) {
		return 0, 0, api.ErrArg
	}
	var n uint64
	for i := 0; at+i < len(s); i++ {
		o := s[at+i]
		// Of the tenth octet only the lowest bit has room in 64 bits: whatever comes behind a greater one, it is no number.
		if i > 0 && o == 0 || i == maxOctets-1 && o > 1 {
			return 0, 0, api.ErrForm
		}
		n |= uint64(o&127) << (7 * i)
		if o < 128 {
			return n, at + i + 1, api.OK
		}
	}
	return 0, 0, api.ErrShort
}

// Text is a text's octets.
func Text(t string) (string, api.Errno) {
	if len(t) > api.MaxText {
		return "", api.ErrLarge
	}
	return Num(uint64(len(t))) + t, api.OK
}

// TakeText takes a text.
func TakeText(s string, at int) (string, int, api.Errno) {
	n, from, e := TakeNum(s, at)
	if e != api.OK {
		return "", 0, e
	}
	if n > api.MaxText {
		return "", 0, api.ErrLarge
	}
	to := from + int(n)
	if to > len(s) {
		return "", 0, api.ErrShort
	}
	return s[from:to], to, api.OK
}

// Sum is octets' sum.
func Sum(s string) uint32 {
	r := ^uint32(0)
	for i := range len(s) {
		r ^= uint32(s[i])
		r = r>>4 ^ sumTable[r&15]
		r = r>>4 ^ sumTable[r&15]
	}
	return ^r
}

// Seal seals octets.
func Seal(s string) (string, api.Errno) {
	if len(s) > api.MaxSeal {
		return "", api.ErrLarge
	}
	return s + sumText(s), api.OK
}

// Open opens what is sealed.
func Open(s string) (string, api.Errno) {
	if len(s) < sumOctets {
		return "", api.ErrShort
	}
	if len(s) > api.MaxSeal+sumOctets {
		return "", api.ErrLarge
	}
	at := len(s) - sumOctets
	if s[at:] != sumText(s[:at]) {
		return "", api.ErrSum
	}
	return s[:at], api.OK
}

// sumText is the four octets of octets' sum, the lowest first.
func sumText(s string) string {
	r := Sum(s)
	return string([]byte{byte(r), byte(r >> 8), byte(r >> 16), byte(r >> 24)})
}
