package schema_test

import (
	"math"
	"math/big"
	"testing"

	"paddock/api"
	"paddock/schema"
)

// far are ways that lead to the ends of the range, just over them, and over the ends of all numbers.
func far() []int {
	list := edges()
	for _, way := range []int{-2097152, 2097152, math.MinInt + 1048576, math.MaxInt - 1048576} {
		list = append(list, way-1, way, way+1)
	}
	return list
}

// sum adds without any bound.
func sum(a, b int) *big.Int {
	return new(big.Int).Add(big.NewInt(int64(a)), big.NewInt(int64(b)))
}

// inRange tells whether a number is a position's.
func inRange(n *big.Int) bool {
	return n.CmpAbs(big.NewInt(1048576)) <= 0
}

func TestMovedFromAllEdges(t *testing.T) {
	for _, a := range []int{-1048576, -1048575, -1, 0, 1, 1048575, 1048576} {
		for _, b := range []int{-1048576, 0, 1048576} {
			for _, dx := range far() {
				for _, dy := range far() {
					v := value(api.Position, a, b)
					x, y := sum(a, dx), sum(b, dy)
					want, fails := api.Value{}, api.ErrRange
					if inRange(x) && inRange(y) {
						want, fails = value(api.Position, int(x.Int64()), int(y.Int64())), nil
					}
					if got, err := schema.Moved(v, dx, dy); got != want || err != fails {
						t.Fatalf("Moved(%v, %d, %d): %v, %v; asked is %v, %v", v, dx, dy, got, err, want, fails)
					}
				}
			}
		}
	}
}

// TestMovedNoPosition: what isn't right, or no Position, is told ahead of where it would come to.
func TestMovedNoPosition(t *testing.T) {
	var list []api.Value
	for _, k := range notKinds() {
		list = append(list, value(k, 0, 0), value(k, 3, 4))
	}
	for k := 1; k < kindsInAll; k++ {
		list = append(list, low(k), high(k), some(k), value(k, 0, 0), value(k, math.MaxInt, 0))
	}
	for _, n := range edges() {
		if fault(value(api.Position, n, 0)) != nil {
			list = append(list, value(api.Position, n, 0), value(api.Position, 0, n), value(api.Position, n, n))
		}
	}
	for _, v := range list {
		for _, way := range [][2]int{{0, 0}, {1, -1}, {-v.A, -v.B}, {math.MaxInt, 0}, {0, math.MinInt}} {
			if got, err := schema.Moved(v, way[0], way[1]); got != (api.Value{}) || err != api.ErrKind {
				t.Fatalf("Moved(%v, %d, %d): %v, %v", v, way[0], way[1], got, err)
			}
		}
	}
}

func TestMovedByHand(t *testing.T) {
	for _, c := range []struct {
		v      api.Value
		dx, dy int
		want   api.Value
		err    error
	}{
		{value(0, 3, 4), 0, 0, value(0, 3, 4), nil},
		{value(0, 3, 4), -5, 6, value(0, -2, 10), nil},
		{value(0, 1048575, -1048575), 1, -1, value(0, 1048576, -1048576), nil},
		{value(0, 1048576, 0), 1, 0, api.Value{}, api.ErrRange},
		{value(0, 0, -1048576), 0, -1, api.Value{}, api.ErrRange},
		{value(0, 1048576, 1048576), -2097152, -2097152, value(0, -1048576, -1048576), nil},
		{value(0, 1048576, 1048576), -2097153, 0, api.Value{}, api.ErrRange},
		{value(0, 1, 0), math.MaxInt, 0, api.Value{}, api.ErrRange},
		{value(0, 0, -1), 0, math.MinInt, api.Value{}, api.ErrRange},
		{value(0, 1048577, 0), -1, 0, api.Value{}, api.ErrKind},
		{value(1, 3, 4), 1, 1, api.Value{}, api.ErrKind},
		{value(2, 3, 4), 0, 0, api.Value{}, api.ErrKind},
		{value(10, 3, 4), 1, 1, api.Value{}, api.ErrKind},
	} {
		if got, err := schema.Moved(c.v, c.dx, c.dy); got != c.want || err != c.err {
			t.Errorf("Moved(%v, %d, %d): %v, %v; asked is %v, %v", c.v, c.dx, c.dy, got, err, c.want, c.err)
		}
	}
}
