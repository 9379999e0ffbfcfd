package join

import "math/bits"

// total is a sum of products of two weights in 192 bits, as two's complement: a product takes up to 128 of them, so that no list that can be handed in leaves them, and only what comes out in the end is held against an int64's bounds.
type total struct{ high, middle, low uint64 }

// add counts v times w in.
func (t *total) add(v, w int64) {
	high, low := bits.Mul64(uint64(v), uint64(w))
	// Mul64 takes a factor below 0 for one that is greater by 2^64.
	if v < 0 {
		high -= uint64(w)
	}
	if w < 0 {
		high -= uint64(v)
	}
	var carry uint64
	t.low, carry = bits.Add64(t.low, low, 0)
	t.middle, carry = bits.Add64(t.middle, high, carry)
	t.high += signOf(high) + carry
}

// weight is the sum; false: it is beyond an int64.
func (t total) weight() (int64, bool) {
	sign := signOf(t.low)
	if t.middle != sign || t.high != sign {
		return 0, false
	}
	return int64(t.low), true
}

// signOf is what stands ahead of n's 64 bits where its uppermost is the sign: 0, or all bits set.
func signOf(n uint64) uint64 { return uint64(int64(n) >> 63) }
