package trace

import (
	"math"
	"strconv"

	"millrace/api"
)

// A field is what one word of a text stands for. Writing and reading go by one list of a thing's fields, so that both have one order.
type field interface {
	word() string
	read(word string) // panics with a fault where the word is none
}

// whole is a field of a whole number.
type whole int

// rate is one of a float64.
type rate float64

// discipline is one of the six kinds.
type discipline int

func (n *whole) word() string { return strconv.Itoa(int(*n)) }

func (n *whole) read(word string) { *n = whole(readWhole(word)) }

func (r *rate) word() string {
	digits := strconv.FormatUint(api.Bits(float64(*r)), 16)
	return noughts[len(digits):] + digits
}

func (r *rate) read(word string) { *r = rate(api.Float(readBits(word))) }

func (d *discipline) word() string { return disciplines[*d] }

func (d *discipline) read(word string) {
	*d = discipline(placeOf(word, disciplines))
	if *d == 0 {
		panic(wrongWord)
	}
}

// readWhole is the whole number of a word. It is counted from 0 down, since ints reach further there.
func readWhole(word string) int {
	n, digits, below := 0, 0, false
	for i, c := range word {
		if i == 0 && c == '-' {
			below = true
			continue
		}
		d := int(c - '0')
		if d < 0 || d > 9 || digits > 0 && n == 0 || n < (math.MinInt+d)/10 {
			panic(wrongWord)
		}
		n, digits = n*10-d, digits+1
	}
	switch {
	case digits == 0, below && n == 0, !below && n == math.MinInt:
		panic(wrongWord)
	case below:
		return n
	}
	return -n
}

// readBits are the bits that a rate's word tells.
func readBits(word string) uint64 {
	bits, digits := uint64(0), 0
	for _, c := range word {
		bits, digits = bits<<4|uint64(readDigit(c)), digits+1
	}
	if digits != len(noughts) {
		panic(wrongWord)
	}
	return bits
}

// readDigit is the value of a hexadecimal digit.
func readDigit(c rune) int {
	switch {
	case '0' <= c && c <= '9':
		return int(c - '0')
	case 'a' <= c && c <= 'f':
		return int(c-'a') + 10
	}
	panic(wrongWord)
}
