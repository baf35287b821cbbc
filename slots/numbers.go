package slots

import (
	"math/bits"
	"slices"
)

// width is how many bits a word has.
const width = 64

// numbers is a set of numbers from 0 on.
//
// The bits of its first row are the numbers. The bits of each further row tell which words of the row ahead of it are not 0, and the last row is one word: so the least number is found, and a number changed, in as many steps as there are rows.
type numbers [][]uint64

// below is the numbers from 0 to n - 1; n is at least 1.
func below(n int) numbers {
	var rows numbers
	for {
		row := make([]uint64, (n+width-1)/width)
		for i := range n {
			row[i/width] |= 1 << (i % width)
		}
		rows = append(rows, row)
		if len(row) == 1 {
			return rows
		}
		n = len(row)
	}
}

// least is the least of them, if there is one.
func (s numbers) least() (i int, ok bool) {
	for _, row := range slices.Backward(s) {
		if row[i] == 0 {
			return 0, false
		}
		i = i*width + bits.TrailingZeros64(row[i])
	}
	return i, true
}

// add puts i into the set.
func (s numbers) add(i int) {
	for _, row := range s {
		row[i/width] |= 1 << (i % width)
		i /= width
	}
}

// remove takes i out of the set.
func (s numbers) remove(i int) {
	for _, row := range s {
		row[i/width] &^= 1 << (i % width)
		if row[i/width] != 0 {
			return
		}
		i /= width
	}
}
