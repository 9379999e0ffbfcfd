package zset

import "math/bits"

// total is a sum of weights in 128 bits, as two's complement: so wide that no list that can be handed in leaves it, and only what comes out in the end is held against an int64's bounds.
type total struct {
	high int64
	low  uint64
}

func (t *total) add(w int64) {
	low, carry := bits.Add64(t.low, uint64(w), 0)
	t.low = low
	t.high += signOf(w) + int64(carry)
}

func (t *total) sub(w int64) {
	low, borrow := bits.Sub64(t.low, uint64(w), 0)
	t.low = low
	t.high -= signOf(w) + int64(borrow)
}

// weight is the sum; false: it is beyond an int64.
func (t *total) weight() (int64, bool) {
	w := int64(t.low)
	if t.high != signOf(w) {
		return 0, false
	}
	return w, true
}

// signOf is the upper half of w in 128 bits: 0, or below 0 all bits set.
func signOf(w int64) int64 { return w >> 63 }
