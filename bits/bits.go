// Package bits has words of 48 bits: layer 1.
package bits

import "sigillum/api"

const (
	places  = 48             // bits of a word
	digits  = places / 4     // digits of a word's Hex
	mixer   = 0x9e3779b97f4b // the factor of Mix
	letters = "0123456789abcdef"
)

// Cut is a number's last 48 bits.
func Cut(x uint64) uint64 { return x & api.Word }

// Add and Mul are sums and products of both words, cut.
// 2^48 divides 2^64, so going round in 64 bits loses nothing of the last 48.
func Add(a, b uint64) uint64 { return Cut(a + b) }

func Mul(a, b uint64) uint64 { return Cut(a * b) }

// Turn is a word whose bits are turned to the left, by as many places.
func Turn(a uint64, n int) uint64 {
	// The rest is taken ahead of the sign: the least int has no negative.
	left := n % places
	if left < 0 {
		left += places
	}
	word := Cut(a)
	return Cut(word<<left | word>>(places-left))
}

// Mix is a word made of two, in which each bit of both matters.
func Mix(a, b uint64) uint64 {
	x := Cut(a) ^ Turn(b, 17)
	for k := 1; k <= 3; k++ {
		x = Add(Mul(x, mixer), Turn(x, 7*k))
		x ^= x >> 23
	}
	return x
}

// Hex is a word in 12 digits.
func Hex(a uint64) string {
	var text [digits]byte
	word := Cut(a)
	for i := digits - 1; i >= 0; i-- {
		text[i] = letters[word&15]
		word >>= 4
	}
	return string(text[:])
}

// Read is the word of 12 digits; false, if a text is none.
func Read(s string) (uint64, bool) {
	if len(s) != digits {
		return 0, false
	}
	word := uint64(0)
	for i := 0; i < digits; i++ {
		value, ok := digit(s[i])
		if !ok {
			return 0, false
		}
		word = word<<4 | value
	}
	return word, true
}

// digit takes no capital letters, since no Hex has them.
func digit(c byte) (uint64, bool) {
	switch {
	case '0' <= c && c <= '9':
		return uint64(c - '0'), true
	case 'a' <= c && c <= 'f':
		return uint64(c-'a') + 10, true
	}
	return 0, false
}
