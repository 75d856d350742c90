package near_test

import (
	"math"
	"slices"
	"testing"

	"paddock/api"
	"paddock/near"
	"paddock/quad"
)

// TestExample is the document's.
func TestExample(t *testing.T) {
	q, _ := treeOf(t, box(-1, -1, 1, 1), box(1, 3, 5, 5), box(8, -2, 10, 2))
	if got, err := near.Radius(q, point(0, 0), 5); err != nil || !slices.Equal(got, firsts(0, 1)) {
		t.Errorf("Radius: %v, %v", got, err)
	}
	if got, err := near.Nearest(q, point(8, 0), 1); err != nil || !slices.Equal(got, firsts(2)) {
		t.Errorf("Nearest: %v, %v", got, err)
	}
}

func TestRadiusByHand(t *testing.T) {
	q, _ := treeOf(t, spot(5, 0), spot(3, 4), spot(4, 4), box(-3, 0, 0, 5), spot(0, 0), box(-400, -400, 400, 400), box(0, 0, 900, 900))
	for _, c := range []struct {
		at   api.Point
		r    int
		want []int
		err  error
	}{
		{point(0, 0), 0, []int{4, 5}, nil},
		{point(0, 0), 2, []int{4, 5}, nil},
		{point(0, 0), 3, []int{3, 4, 5}, nil}, // the centre is (-2, 2): 8 is at most 9, and more than 4
		{point(0, 0), 4, []int{3, 4, 5}, nil},
		{point(0, 0), 5, []int{0, 1, 3, 4, 5}, nil}, // just 25, and not 32, though both meet the square around
		{point(0, 0), 6, []int{0, 1, 2, 3, 4, 5}, nil},
		{point(0, 0), 636, []int{0, 1, 2, 3, 4, 5}, nil},
		{point(0, 0), 637, []int{0, 1, 2, 3, 4, 5, 6}, nil}, // a box whose corner is near counts by its centre alone
		{point(450, 450), 0, []int{6}, nil},
		{point(400, 400), 50, nil, nil},
		{point(-2, 2), 0, []int{3}, nil},
		{point(-1, 3), 1, nil, nil}, // rounded down, not up
		{point(-2, 3), 1, []int{3}, nil},
		{point(1048576, -1048576), 4194304, []int{0, 1, 2, 3, 4, 5, 6}, nil},
		{point(1048577, 0), 5, nil, api.ErrRange},
		{point(-1048577, 0), 5, nil, api.ErrRange},
		{point(0, 1048577), 5, nil, api.ErrRange},
		{point(0, -1048577), 5, nil, api.ErrRange},
		{point(0, 0), -1, nil, api.ErrRange},
		{point(0, 0), -5, nil, api.ErrRange}, // though its square is 25
		{point(0, 0), 4194305, nil, api.ErrRange},
	} {
		if got, err := near.Radius(q, c.at, c.r); err != c.err || !slices.Equal(got, firsts(c.want...)) {
			t.Errorf("Radius(%v, %d): %v, %v; asked is %v, %v", c.at, c.r, got, err, c.want, c.err)
		}
	}
}

func TestNearestByHand(t *testing.T) {
	q, _ := treeOf(t, spot(5, 0), spot(3, 4), spot(4, 4), box(-3, 0, 0, 5), spot(0, 0), box(-400, -400, 400, 400), box(0, 0, 900, 900), spot(0, -5))
	for _, c := range []struct {
		at   api.Point
		k    int
		want []int
		err  error
	}{
		{point(0, 0), 0, nil, nil},
		{point(0, 0), 1, []int{4}, nil},
		{point(0, 0), 2, []int{4, 5}, nil},
		{point(0, 0), 3, []int{4, 5, 3}, nil},
		{point(0, 0), 4, []int{4, 5, 3, 0}, nil}, // of 25 there are three
		{point(0, 0), 5, []int{4, 5, 3, 0, 1}, nil},
		{point(0, 0), 6, []int{4, 5, 3, 0, 1, 7}, nil},
		{point(0, 0), 7, []int{4, 5, 3, 0, 1, 7, 2}, nil},
		{point(0, 0), 8, []int{4, 5, 3, 0, 1, 7, 2, 6}, nil},
		{point(0, 0), 9, []int{4, 5, 3, 0, 1, 7, 2, 6}, nil},
		{point(0, 0), math.MaxInt, []int{4, 5, 3, 0, 1, 7, 2, 6}, nil},
		{point(460, 450), 2, []int{6, 2}, nil},
		{point(-1048576, 1048576), 3, []int{3, 1, 4}, nil},
		{point(1048576, 1048576), 1, []int{6}, nil},
		{point(0, 0), -1, nil, api.ErrRange},
		{point(0, 0), math.MinInt, nil, api.ErrRange},
		{point(1048577, 0), 1, nil, api.ErrRange},
		{point(-1048577, 0), 1, nil, api.ErrRange},
		{point(0, 1048577), 1, nil, api.ErrRange},
		{point(0, -1048577), 0, nil, api.ErrRange},
	} {
		if got, err := near.Nearest(q, c.at, c.k); err != c.err || !slices.Equal(got, firsts(c.want...)) {
			t.Errorf("Nearest(%v, %d): %v, %v; asked is %v, %v", c.at, c.k, got, err, c.want, c.err)
		}
	}
}

func TestAroundByHand(t *testing.T) {
	q, _ := treeOf(t, spot(5, 0), spot(3, 4), box(-3, 0, 0, 5), spot(0, 0), box(-400, -400, 400, 400), box(1048576, 0, 1048577, 0), box(1048577, 0, 1048577, 0), spot(9, -1048577))
	for _, c := range []struct {
		handle api.Handle
		r      int
		want   []int
		err    error
	}{
		{handle(3, 1), 0, []int{4}, nil},
		{handle(4, 1), 0, []int{3}, nil},
		{handle(3, 1), 3, []int{2, 4}, nil},
		{handle(3, 1), 5, []int{0, 1, 2, 4}, nil},
		{handle(2, 1), 3, []int{3, 4}, nil},
		{handle(1, 1), 0, nil, nil},
		{handle(1, 1), 4, nil, nil},
		{handle(1, 1), 5, []int{0, 3, 4}, nil},
		{handle(5, 1), 1, []int{6}, nil}, // its centre may be asked about, the other one's not
		{handle(5, 1), 4194304, []int{0, 1, 2, 3, 4, 6, 7}, nil},
		{handle(6, 1), 1, nil, api.ErrRange},
		{handle(7, 1), 1, nil, api.ErrRange},
		{handle(3, 1), -1, nil, api.ErrRange},
		{handle(3, 1), 4194305, nil, api.ErrRange},
		{handle(3, 2), 5, nil, api.ErrNone},
		{handle(8, 1), 5, nil, api.ErrNone},
		{handle(8, 1), -1, nil, api.ErrNone}, // ahead of the radius
		{handle(8, 1), 4194305, nil, api.ErrNone},
		{handle(-1, -1), math.MinInt, nil, api.ErrNone},
	} {
		if got, err := near.Around(q, c.handle, c.r); err != c.err || !slices.Equal(got, firsts(c.want...)) {
			t.Errorf("Around(%v, %d): %v, %v; asked is %v, %v", c.handle, c.r, got, err, c.want, c.err)
		}
	}
}

func TestClosestByHand(t *testing.T) {
	q, _ := treeOf(t, spot(5, 0), spot(3, 4), box(-3, 0, 0, 5), spot(0, 0), box(-400, -400, 400, 400))
	for _, c := range []struct {
		at   api.Point
		but  []int
		want api.Handle
		has  bool
		err  error
	}{
		{point(0, 0), nil, handle(3, 1), true, nil},
		{point(0, 0), []int{3}, handle(4, 1), true, nil},
		{point(0, 0), []int{4}, handle(3, 1), true, nil},
		{point(0, 0), []int{4, 3}, handle(2, 1), true, nil},
		{point(0, 0), []int{3, 4, 2}, handle(0, 1), true, nil},
		{point(0, 0), []int{0, 4, 3, 2}, handle(1, 1), true, nil},
		{point(0, 0), []int{1, 0, 4, 3}, handle(2, 1), true, nil},
		{point(0, 0), []int{4, 3, 2, 1, 0}, api.Handle{}, false, nil},
		{point(0, 0), []int{3, 3, 3, 3, 3}, handle(4, 1), true, nil}, // one that is told often is left out once
		{point(0, 0), []int{9, 8, -1, 77, 6, 5}, handle(3, 1), true, nil},
		{point(1048576, 1048576), []int{0}, handle(1, 1), true, nil},
		{point(1048577, 0), nil, api.Handle{}, false, api.ErrRange},
		{point(-1048577, 0), nil, api.Handle{}, false, api.ErrRange},
		{point(0, 1048577), nil, api.Handle{}, false, api.ErrRange},
		{point(0, -1048577), []int{4, 3, 2, 1, 0}, api.Handle{}, false, api.ErrRange},
	} {
		if got, has, err := near.Closest(q, c.at, firsts(c.but...)...); err != c.err || got != c.want || has != c.has {
			t.Errorf("Closest(%v, %v): %v, %v, %v; asked is %v, %v, %v", c.at, c.but, got, has, err, c.want, c.has, c.err)
		}
	}
	// The handle of no fields may be found too, and one of another generation is another one.
	if err := q.Put(api.Handle{}, spot(0, 0)); err != nil {
		t.Fatal(err)
	}
	if got, has, err := near.Closest(q, point(0, 0), handle(3, 1)); got != (api.Handle{}) || !has || err != nil {
		t.Errorf("Closest: %v, %v, %v", got, has, err)
	}
	if got, has, err := near.Closest(q, point(0, 0), handle(3, 2), api.Handle{}, handle(0, 3)); got != handle(3, 1) || !has || err != nil {
		t.Errorf("Closest: %v, %v, %v", got, has, err)
	}
}

// TestEmptyTree: of a tree without boxes, a new one or one that lost them, nothing is near, and wrong numbers are refused.
func TestEmptyTree(t *testing.T) {
	lost, _ := treeOf(t, spot(0, 0), box(-9, -9, 70000, 9))
	lost.Drop(handle(0, 1))
	lost.Drop(handle(1, 1))
	for _, q := range []*quad.Tree{quad.New(), lost} {
		m := &model{}
		for _, p := range []api.Point{point(0, 0), point(-coord, coord), point(coord+1, 0), point(0, -coord-1)} {
			same(t, q, m, p)
			sameNearest(t, q, m, p, math.MaxInt)
			sameClosest(t, q, m, p, handle(0, 1), api.Handle{})
		}
		sameAround(t, q, m, handle(0, 1), 5)
		sameAround(t, q, m, api.Handle{}, 0)
	}
}
