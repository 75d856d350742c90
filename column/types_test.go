package column_test

import (
	"fmt"
	"math"
	"testing"

	"paddock/api"
	"paddock/column"
)

// checkType holds columns of a type of its own to the model; things are at least three of it, none its zero value.
func checkType[T comparable](t *testing.T, things ...T) {
	t.Helper()
	var none T
	name := fmt.Sprintf("a column of %T", things)
	c, m := of(t, len(things), things...)
	pushes(t, c, m, things[0])
	takes(t, c, m, 0)
	takes(t, c, m, len(things)-2)
	sets(t, c, m, 0, none)
	pushes(t, c, m, none, things[1])
	same(t, name, c, m)
	same(t, name+", cloned", c.Clone(), m)
	for _, i := range []int{-1, c.Len(), len(things)} {
		if x, err := c.Get(i); x != none || err != api.ErrRange {
			t.Fatalf("%s: Get(%d): %v, %v", name, i, x, err)
		}
		if x, err := c.Take(i); x != none || err != api.ErrRange {
			t.Fatalf("%s: Take(%d): %v, %v", name, i, x, err)
		}
	}
	for c.Len() > 0 {
		takes(t, c, m, c.Len()/2)
		same(t, name, c, m)
	}
}

func TestTypes(t *testing.T) {
	one, two := 1, 2
	checkType(t, 5, 6, 7, 8)
	checkType(t, "a", "b", "c")
	checkType(t, uint8(255), 1, 2)
	checkType(t, 0.5, math.Inf(1), -1)
	checkType(t, true, true, true)
	checkType(t, &one, &two, &one)
	checkType(t, api.Handle{Gen: 1}, api.Handle{Index: 1, Gen: 1}, api.Handle{Index: 2, Gen: 9})
	checkType(t, api.Value{A: 3, B: 4}, api.Value{Kind: api.Extent, A: 1}, api.Value{Kind: api.Team, A: 7})
	checkType(t, [2]string{"a", ""}, [2]string{"b", "c"}, [2]string{"", "d"})
	checkType[any](t, 1, "two", api.Handle{Gen: 3})
	checkType[error](t, api.ErrFull, api.ErrNone, api.ErrRange)
	checkType(t, column.New[int](1), column.New[int](2), column.New[int](3))
	checkType(t, struct{}{}, struct{}{}, struct{}{})
}

// TestTypesWithoutEquality: things that can't be held against each other stand in a column, too, also ones that aren't themselves.
func TestTypesWithoutEquality(t *testing.T) {
	lists := column.New[[]int](3)
	if err := lists.Push([]int{1}, nil, []int{2, 3}); err != nil {
		t.Fatal(err)
	}
	if x, err := lists.Take(0); len(x) != 1 || x[0] != 1 || err != nil {
		t.Errorf("Take: %v, %v", x, err)
	}
	if got := fmt.Sprint(lists.All()); got != "[[2 3] []]" {
		t.Errorf("All: %s", got)
	}
	if x, err := lists.Get(2); x != nil || err != api.ErrRange {
		t.Errorf("Get: %v, %v", x, err)
	}
	calls := column.New[func() int](2)
	calls.Push(func() int { return 7 }, func() int { return 8 })
	calls.Take(0)
	if f, err := calls.Get(0); err != nil || f() != 8 {
		t.Errorf("Get: %v", err)
	}
	if f, err := calls.Take(1); f != nil || err != api.ErrRange {
		t.Errorf("Take: %v, %v", f != nil, err)
	}
	nans := column.New[float64](2)
	nans.Push(math.NaN(), 1)
	if x, err := nans.Take(0); x == x || err != nil {
		t.Errorf("Take: %v, %v", x, err)
	}
	if got := fmt.Sprint(nans.All()); got != "[1]" {
		t.Errorf("All: %s", got)
	}
}
