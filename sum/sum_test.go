package sum

import (
	"math"
	"math/big"
	"math/rand"
	"testing"
)

const (
	most  = math.MaxInt64
	least = math.MinInt64
)

// edges are numbers about the bounds, their halves and roots, and about 0.
func edges() []int64 {
	return []int64{least, least + 1, least/2 - 1, least / 2, -1<<32 - 1, -1 << 32, -1<<32 + 1, -3, -2, -1, 0, 1, 2, 3, 1<<32 - 1, 1 << 32, 1<<32 + 1, most / 2, most/2 + 1, most - 1, most}
}

// holds holds a total against a number without bounds.
func holds(t *testing.T, name string, got Total, want *big.Int) {
	t.Helper()
	w, ok := got.Int64()
	if ok != want.IsInt64() || ok && w != want.Int64() || !ok && w != 0 {
		t.Errorf("%s: %v: Int64: %d, %v", name, want, w, ok)
	}
	if got.Above() != (want.Sign() > 0) {
		t.Errorf("%s: %v: Above: %v", name, want, got.Above())
	}
}

func product(v, w int64) *big.Int { return new(big.Int).Mul(big.NewInt(v), big.NewInt(w)) }

func TestTotalOfNothing(t *testing.T) {
	holds(t, "the zero value", Total{}, new(big.Int))
}

func TestTotalOfAllProducts(t *testing.T) {
	for _, v := range edges() {
		for _, w := range edges() {
			var got Total
			got.Add(v, w)
			holds(t, "one product", got, product(v, w))
			for _, more := range edges() {
				got := got
				got.Add(more, 1)
				holds(t, "a product and a number", got, new(big.Int).Add(product(v, w), big.NewInt(more)))
			}
		}
	}
}

func TestTotalsAreWithoutBounds(t *testing.T) {
	r := rand.New(rand.NewSource(4))
	l := edges()
	for range 20000 {
		var got Total
		want := new(big.Int)
		for range 1 + r.Intn(6) {
			v, w := l[r.Intn(len(l))], l[r.Intn(len(l))]
			for _, sign := range []int64{1, 1, 1, -1, -1, -1}[r.Intn(3) : 4+r.Intn(3)] {
				got.Add(v, sign*w)
				want.Add(want, product(v, sign*w))
			}
		}
		holds(t, "some products", got, want)
	}
}

func TestTotalsFarBeyondAndBack(t *testing.T) {
	for _, v := range []int64{most, least} {
		var got Total
		want := new(big.Int)
		for range 1 << 16 {
			got.Add(v, least)
			want.Add(want, product(v, least))
		}
		holds(t, "far beyond", got, want)
		for range 1 << 16 {
			got.Add(v, most)
			got.Add(v, 1)
		}
		holds(t, "back", got, new(big.Int))
	}
}
