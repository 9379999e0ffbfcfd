// Package sum: sums of products of two int64, held against an int64's bounds in the end alone.
package sum

import "math/bits"

// Total is such a sum in 192 bits, as two's complement: a product takes up to 128 of them, so that no list that can be handed in leaves them. The zero value is the sum of nothing.
type Total struct{ high, middle, low uint64 }

// Add counts v times w in.
func (t *Total) Add(v, w int64) {
	high, low := bits.Mul64(uint64(v), uint64(w))
	// Mul64 takes a factor below 0 for one that is greater by 2^64.
	if v < 0 {
		high -= uint64(w)
	}
	if w < 0 {
		high -= uint64(v)
	}
	var carry uint64
	t.low, carry = bits.Add64(t.low, low, 0)
	t.middle, carry = bits.Add64(t.middle, high, carry)
	t.high += signOf(high) + carry
}

// Int64 is the sum; false: it is beyond an int64.
func (t Total) Int64() (int64, bool) {
	sign := signOf(t.low)
	if t.middle != sign || t.high != sign {
		return 0, false
	}
	return int64(t.low), true
}

// Above tells whether the sum is above 0, beyond an int64 or not.
func (t Total) Above() bool { return signOf(t.high) == 0 && t != Total{} }

// signOf is what stands ahead of n's 64 bits where its uppermost is the sign: 0, or all bits set.
func signOf(n uint64) uint64 { return uint64(int64(n) >> 63) }
