// Package calc is layer 1: numbers that never wrap. See shared/doc/01-calc.md.
package calc

import (
	"cmp"
	"math"
	"math/bits"

	"pappus/api"
)

// greatest is the greatest number: sums of times stop there.
const greatest uint64 = math.MaxUint64

// perRate is how many bytes a rate is for.
const perRate = 1000

// Later is a time, and so much more.
func Later(t uint64, d ...uint64) uint64 {
	s, fits := add(t, d)
	if !fits {
		return greatest
	}
	return s
}

// Sum is the sum of numbers.
func Sum(l ...uint64) (uint64, api.Errno) {
	s, fits := add(0, l)
	if !fits {
		return 0, api.ErrRange
	}
	return s, api.OK
}

// Cmp holds two products against each other: a and b's, c and d's.
func Cmp(a, b, c, d uint64) int {
	hi1, lo1 := bits.Mul64(a, b)
	hi2, lo2 := bits.Mul64(c, d)
	if hi1 != hi2 {
		return cmp.Compare(hi1, hi2)
	}
	return cmp.Compare(lo1, lo2)
}

// Part is x, times num, over den, rounded down.
func Part(x, num, den uint64) (uint64, api.Errno) {
	if den == 0 {
		return 0, api.ErrArg
	}
	hi, lo := bits.Mul64(x, num)
	return over(hi, lo, den)
}

// Need is what so many bytes cost at least, at so much a thousand.
func Need(size, rate uint64) (uint64, api.Errno) {
	hi, lo := bits.Mul64(size, rate)
	// To round up, not down. The upper half has room for the carry: that of a product is at most 2^64 - 2.
	lo, carry := bits.Add64(lo, perRate-1, 0)
	return over(hi+carry, lo, perRate)
}

// add is t and all of l, added, and whether that is a number.
func add(t uint64, l []uint64) (uint64, bool) {
	for _, x := range l {
		s, carry := bits.Add64(t, x, 0)
		// What is added later never takes away: it won't fit again.
		if carry != 0 {
			return 0, false
		}
		t = s
	}
	return t, true
}

// over is a number of two halves over den, which isn't 0, rounded down.
func over(hi, lo, den uint64) (uint64, api.Errno) {
	// Only below den does the quotient fit, and bits.Div64 panics where it doesn't.
	if hi >= den {
		return 0, api.ErrRange
	}
	q, _ := bits.Div64(hi, lo, den)
	return q, api.OK
}
