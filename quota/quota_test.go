package quota

import (
	"math"
	"math/big"
	"testing"

	"belvedere/api"
)

const (
	most  = math.MaxInt
	least = math.MinInt
)

// step is a move, what it answers, and how many are used and left then.
type step struct {
	by         int
	err        error
	used, left int
}

// holds tells where q is not as it should be.
func holds(t *testing.T, q *Quota, used, left int) {
	t.Helper()
	if q.Used() != used || q.Left() != left {
		t.Errorf("used %d, left %d; want %d, %d", q.Used(), q.Left(), used, left)
	}
}

// walk makes the steps, one behind the other, on one of so many.
func walk(t *testing.T, many int, steps ...step) {
	t.Helper()
	q := New(many)
	for i, s := range steps {
		if err := q.Move(s.by); err != s.err {
			t.Errorf("New(%d), step %d: Move(%d): %v, want %v", many, i, s.by, err, s.err)
		}
		holds(t, q, s.used, s.left)
	}
}

func TestNewHasNoneUsed(t *testing.T) {
	for _, x := range []struct{ many, left int }{
		{0, 0}, {1, 1}, {2, 2}, {1000, 1000}, {most - 1, most - 1}, {most, most},
		{-1, 0}, {-2, 0}, {-1000, 0}, {least + 1, 0}, {least, 0},
	} {
		holds(t, New(x.many), 0, x.left)
	}
}

func TestNewBelowNoneIsNone(t *testing.T) {
	for _, many := range []int{0, -1, -7, least + 1, least} {
		walk(t, many,
			step{0, nil, 0, 0},
			step{1, api.ErrFull, 0, 0},
			step{most, api.ErrFull, 0, 0},
			step{-1, nil, 0, 0},
			step{least, nil, 0, 0},
			step{1, api.ErrFull, 0, 0},
		)
	}
}

func TestMoveMore(t *testing.T) {
	walk(t, 10,
		step{3, nil, 3, 7},
		step{3, nil, 6, 4},
		step{1, nil, 7, 3},
		step{3, nil, 10, 0},
	)
}

func TestMoveTheChaptersExample(t *testing.T) {
	walk(t, 1,
		step{2, api.ErrFull, 0, 1},
		step{1, nil, 1, 0},
	)
}

func TestMoveOfWhatIsLeftAndOfOneMore(t *testing.T) {
	for _, many := range []int{0, 1, 2, 9, most - 1} {
		for _, used := range []int{0, many / 2, many} {
			left := many - used
			walk(t, many,
				step{used, nil, used, left},
				step{left + 1, api.ErrFull, used, left},
				step{left, nil, many, 0},
				step{1, api.ErrFull, many, 0},
			)
		}
	}
}

func TestMoveThatIsRefusedLeavesNothing(t *testing.T) {
	walk(t, 5,
		step{6, api.ErrFull, 0, 5},
		step{4, nil, 4, 1},
		step{2, api.ErrFull, 4, 1},
		step{2, api.ErrFull, 4, 1},
		step{1, nil, 5, 0},
		step{1, api.ErrFull, 5, 0},
		step{-2, nil, 3, 2},
		step{3, api.ErrFull, 3, 2},
		step{2, nil, 5, 0},
	)
}

func TestMoveFewer(t *testing.T) {
	walk(t, 10,
		step{8, nil, 8, 2},
		step{-1, nil, 7, 3},
		step{-6, nil, 1, 9},
		step{-1, nil, 0, 10},
	)
}

func TestMoveNeverBelowNone(t *testing.T) {
	walk(t, 10,
		step{-1, nil, 0, 10},
		step{3, nil, 3, 7},
		step{-4, nil, 0, 10},
		step{11, api.ErrFull, 0, 10},
		step{10, nil, 10, 0},
		step{-1000, nil, 0, 10},
		step{10, nil, 10, 0},
	)
}

func TestMoveOfNone(t *testing.T) {
	walk(t, 2,
		step{0, nil, 0, 2},
		step{1, nil, 1, 1},
		step{0, nil, 1, 1},
		step{1, nil, 2, 0},
		step{0, nil, 2, 0},
		step{1, api.ErrFull, 2, 0},
		step{0, nil, 2, 0},
	)
}

func TestMoveByTheLargestAndTheLeast(t *testing.T) {
	walk(t, most,
		step{most, nil, most, 0},
		step{1, api.ErrFull, most, 0},
		step{most, api.ErrFull, most, 0},
		step{0, nil, most, 0},
		step{-1, nil, most - 1, 1},
		step{2, api.ErrFull, most - 1, 1},
		step{most, api.ErrFull, most - 1, 1},
		step{1, nil, most, 0},
		step{-most, nil, 0, most},
		step{most, nil, most, 0},
		step{least, nil, 0, most},
		step{least, nil, 0, most},
		step{1, nil, 1, most - 1},
		step{most, api.ErrFull, 1, most - 1},
		step{least, nil, 0, most},
	)
	walk(t, 10,
		step{most, api.ErrFull, 0, 10},
		step{7, nil, 7, 3},
		step{most, api.ErrFull, 7, 3},
		step{most - 7, api.ErrFull, 7, 3},
		step{most - 6, api.ErrFull, 7, 3},
		step{least + 1, nil, 0, 10},
		step{10, nil, 10, 0},
		step{least, nil, 0, 10},
	)
}

func TestUsedAndLeftOnlyTell(t *testing.T) {
	q := New(4)
	q.Move(3)
	for range 5 {
		holds(t, q, 3, 1)
	}
	if err := q.Move(1); err != nil {
		t.Error(err)
	}
	holds(t, q, 4, 0)
}

func TestQuotasAreApart(t *testing.T) {
	a, b := New(3), New(3)
	a.Move(3)
	holds(t, b, 0, 3)
	c := New(5)
	holds(t, c, 0, 5)
	b.Move(1)
	c.Move(-9)
	holds(t, a, 3, 0)
	holds(t, b, 1, 2)
	if a.Move(1) != api.ErrFull || b.Move(1) != nil || c.Move(1) != nil {
		t.Error("one hangs on another one")
	}
}

// moved is used and by together, of so many at most, reckoned without bounds, and whether that may be.
func moved(used, by, many int) (int, bool) {
	sum := new(big.Int).Add(big.NewInt(int64(used)), big.NewInt(int64(by)))
	if by > 0 && sum.Cmp(big.NewInt(int64(many))) > 0 {
		return used, false
	}
	if sum.Sign() < 0 {
		return 0, true
	}
	return int(sum.Int64()), true
}

func TestMovesAsWithoutBounds(t *testing.T) {
	moves := []int{0, 1, -1, 2, -2, 3, -3, 5, -5, 8, -8, most, most - 1, most - 3, most / 2, -most / 2, -most, least, least + 1, least / 2}
	for _, many := range []int{least, -1, 0, 1, 2, 7, 8, most / 2, most - 1, most} {
		for _, first := range moves {
			for _, second := range moves {
				for _, third := range moves {
					q, used := New(many), 0
					for _, by := range []int{first, second, third} {
						next, ok := moved(used, by, max(many, 0))
						err := q.Move(by)
						if ok != (err == nil) || !ok && err != api.ErrFull {
							t.Fatalf("of %d, %d used: Move(%d): %v", many, used, by, err)
						}
						used = next
						if holds(t, q, used, max(many, 0)-used); t.Failed() {
							return
						}
					}
				}
			}
		}
	}
}
