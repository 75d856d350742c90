package tiles_test

import (
	"math"
	"slices"
	"testing"

	"paddock/api"
	"paddock/tiles"
)

// TestExample is the document's.
func TestExample(t *testing.T) {
	g := grid(4, 3, 10, 0, 0)
	if got, has := tiles.At(g, point(25, 9)); got != 2 || !has {
		t.Errorf("At: %d, %v", got, has)
	}
	if got := tiles.Under(g, box(5, 5, 10, 10)); !slices.Equal(got, []int{0, 1, 4, 5}) {
		t.Errorf("Under: %v", got)
	}
}

// TestNew: all tiles of a new map are free; of a grid that isn't right there is none.
func TestNew(t *testing.T) {
	for _, g := range edgeGrids() {
		x, m := mapOf(t, g)
		same(t, x, m)
	}
	for _, g := range append(wrongGrids(), api.Grid{}) {
		if x, err := tiles.New(g); x != nil || err != api.ErrForm {
			t.Errorf("New(%v): %v, %v", g, x, err)
		}
	}
}

// call is one of Put or Drop, and what it is asked to answer.
type call struct {
	drop bool
	box  api.Box
	want []int
	err  error
}

// TestByHand: a map of 4 by 3 tiles is blocked and freed.
func TestByHand(t *testing.T) {
	x, m := mapOf(t, grid(4, 3, 10, 0, 0))
	for i, c := range []call{
		{false, box(5, 5, 10, 10), []int{0, 1, 4, 5}, nil},
		{false, box(5, 5, 10, 10), nil, nil},
		{false, box(0, 0, 39, 0), []int{2, 3}, nil}, // those of them alone that were free
		{true, box(0, 0, 39, 29), nil, api.ErrNone},
		{true, box(5, 5, 10, 10), nil, nil}, // all are blocked still
		{true, box(35, 9, 35, 10), nil, api.ErrNone},
		{true, box(5, 5, 10, 10), []int{4, 5}, nil},
		{true, box(5, 5, 10, 10), nil, api.ErrNone},
		{true, box(20, 5, 20, 5), []int{2}, nil}, // it wasn't put on so, but the count was above 0
		{true, box(0, 0, 39, 0), nil, api.ErrNone},
		{true, box(0, 0, 10, 0), []int{0, 1}, nil},
		{true, box(0, 0, 10, 0), nil, api.ErrNone},
		{true, box(30, 0, 90, 9), []int{3}, nil},
		{true, box(-9, -9, 90, 90), nil, api.ErrNone},
		{false, box(-9, -9, 90, 90), []int{0, 1, 2, 3, 4, 5, 6, 7, 8, 9, 10, 11}, nil},
		{true, box(-4194304, 20, 4194304, 4194304), []int{8, 9, 10, 11}, nil},
		{true, box(0, 0, 39, 19), []int{0, 1, 2, 3, 4, 5, 6, 7}, nil},
	} {
		if got, err := does(x, c.drop, c.box); err != c.err || !slices.Equal(got, c.want) {
			t.Fatalf("call %d, %v: %v, %v", i, c, got, err)
		}
		if c.drop {
			m.drop(c.box)
		} else {
			m.put(c.box)
		}
		same(t, x, m)
	}
}

// does puts or drops a box.
func does(x *tiles.Map, drop bool, b api.Box) ([]int, error) {
	if drop {
		return x.Drop(b)
	}
	return x.Put(b), nil
}

// TestCoversNone: a box that covers no tile, or isn't right, is put and dropped, and changes nothing.
func TestCoversNone(t *testing.T) {
	boxes := []api.Box{
		box(-9, 0, -1, 29), box(40, 0, 99, 29), box(0, -9, 39, -1), box(0, 30, 39, 99), box(-4194304, -4194304, -1, -1), box(40, 30, 4194304, 4194304),
		box(5, 5, 4, 5), box(5, 5, 5, 4), box(39, 29, 0, 0), box(0, 0, 4194305, 5), box(0, 0, 5, 4194305), box(-4194305, 0, 5, 5), box(0, -4194305, 5, 5),
		box(math.MinInt, math.MinInt, math.MaxInt, math.MaxInt), box(math.MaxInt, 0, math.MinInt, 0), box(0, 0, 1<<32+5, 5), box(1<<32, 1<<32, 1<<32, 1<<32),
	}
	for _, first := range [][]api.Box{nil, {box(0, 0, 39, 29)}} {
		x, m := mapOf(t, grid(4, 3, 10, 0, 0), first...)
		for _, b := range boxes {
			for _, drop := range []bool{true, false, true, true} {
				if got, err := does(x, drop, b); len(got) != 0 || err != nil {
					t.Fatalf("%v, drop is %v: %v, %v", b, drop, got, err)
				}
				same(t, x, m)
			}
		}
	}
}

// TestRefusedDrop changes nothing, wherever the tile lies that isn't blocked.
func TestRefusedDrop(t *testing.T) {
	g := grid(3, 3, 2, -3, -3)
	for n, a := range areas(g) {
		x, m := mapOf(t, g, box(-3, -3, 2, 2), box(-3, -3, 2, 2))
		drops(t, x, m, a)
		drops(t, x, m, a)
		if !x.Free(n) {
			t.Fatalf("tile %d isn't free", n)
		}
		for range 3 {
			if got, err := x.Drop(box(-3, -3, 2, 2)); len(got) != 0 || err != api.ErrNone {
				t.Fatalf("Drop, with tile %d free: %v, %v", n, got, err)
			}
			same(t, x, m)
		}
	}
}

// TestAskedTiles: what isn't a tile is neither there nor free, and has no count.
func TestAskedTiles(t *testing.T) {
	for _, g := range edgeGrids() {
		x, m := mapOf(t, g, box(-reach, -reach, reach, reach))
		for _, n := range edgeNumbers() {
			sameTile(t, x, m, n)
		}
		if got := len(x.Blocked()); got != g.W*g.H {
			t.Fatalf("of %v %d tiles are blocked", g, got)
		}
	}
}

// TestManyBoxes: a tile counts more boxes than fit into few bits.
func TestManyBoxes(t *testing.T) {
	const many = 70000
	x, _ := mapOf(t, grid(2, 1, 10, 0, 0))
	for i := range many {
		if got := x.Put(box(0, 0, 9, 9)); (len(got) == 1) != (i == 0) || x.Count(0) != i+1 || x.Free(0) {
			t.Fatalf("Put %d: %v, %d", i, got, x.Count(0))
		}
	}
	for i := range many {
		got, err := x.Drop(box(0, 0, 9, 9))
		if (len(got) == 1) != (i == many-1) || err != nil || x.Count(0) != many-1-i || x.Free(0) != (i == many-1) {
			t.Fatalf("Drop %d: %v, %v, %d", i, got, err, x.Count(0))
		}
	}
	if got, err := x.Drop(box(0, 0, 9, 9)); len(got) != 0 || err != api.ErrNone || x.Count(0) != 0 || x.Count(1) != 0 {
		t.Fatalf("Drop: %v, %v, %d", got, err, x.Count(0))
	}
}
