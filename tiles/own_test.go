package tiles_test

import (
	"slices"
	"testing"

	"paddock/api"
	"paddock/tiles"
)

// spoil changes all of a list's memory, what lies behind it too.
func spoil(list []int) {
	list = list[:cap(list)]
	for i := range list {
		list[i] = -7
	}
}

// answers are those lists that the calls answer; the map is the same after all of them.
func answers(t *testing.T, x *tiles.Map) [][]int {
	t.Helper()
	b := box(0, 0, 19, 19)
	all := [][]int{tiles.Under(x.Grid(), b), x.Blocked(), x.Put(b)}
	off, err := x.Drop(b)
	if err != nil {
		t.Fatal(err)
	}
	return append(all, off, x.Blocked(), tiles.Under(x.Grid(), b))
}

// cloned are lists of their own memory.
func cloned(all [][]int) [][]int {
	var own [][]int
	for _, list := range all {
		own = append(own, slices.Clone(list))
	}
	return own
}

// TestAnswersAreOwn: a change of an answer shows neither in the map nor in another answer.
func TestAnswersAreOwn(t *testing.T) {
	x, m := mapOf(t, grid(4, 3, 10, 0, 0), box(0, 0, 0, 0), box(15, 0, 39, 9))
	first := answers(t, x)
	was := cloned(first)
	for i, list := range answers(t, x) {
		spoil(list)
		same(t, x, m)
		if !slices.EqualFunc(first, was, slices.Equal) || !slices.EqualFunc(answers(t, x), was, slices.Equal) {
			t.Fatalf("after answer %d was changed: %v; asked is %v", i, first, was)
		}
	}
	all := answers(t, x)
	for i, list := range all {
		spoil(list)
		for k := i + 1; k < len(all); k++ {
			if !slices.Equal(all[k], was[k]) {
				t.Fatalf("after answer %d was changed, %d is %v; asked is %v", i, k, all[k], was[k])
			}
		}
	}
	puts(t, x, m, box(-9, -9, 99, 99))
	drops(t, x, m, box(15, 0, 39, 9))
	if !slices.EqualFunc(first, was, slices.Equal) {
		t.Fatalf("after the map was changed: %v; asked is %v", first, was)
	}
}

// TestCloneIsApart: a clone is the same, and what is done to one doesn't show in the other.
func TestCloneIsApart(t *testing.T) {
	draw := drawer(5)
	for range 30 {
		g := drawnGrid(draw, 4)
		x, m := mapOf(t, g, drawnBox(draw, g), drawnBox(draw, g))
		y, k := x.Clone(), m.clone()
		same(t, y, k)
		for range 12 {
			one, two, other := x, m, y
			if draw(2) == 0 {
				one, two, other = y, k, x
			}
			was := other.Blocked()
			b := drawnBox(draw, g)
			puts(t, one, two, b)
			if draw(2) == 0 {
				drops(t, one, two, b)
			}
			if !slices.Equal(other.Blocked(), was) {
				t.Fatalf("the other one's blocked tiles became %v; they were %v", other.Blocked(), was)
			}
		}
		same(t, x, m)
		same(t, y, k)
	}
}

// TestCloneOfAClone: each is apart from all others.
func TestCloneOfAClone(t *testing.T) {
	x, m := mapOf(t, grid(4, 3, 10, 0, 0), box(0, 0, 15, 5))
	y, k := x.Clone(), m.clone()
	z, n := y.Clone(), k.clone()
	drops(t, y, k, box(0, 0, 15, 5))
	puts(t, z, n, box(0, 0, 39, 29))
	same(t, x, m)
	same(t, y, k)
	same(t, z, n)
}

// TestMapsAreApart: what stands on one map doesn't on another one of the same grid.
func TestMapsAreApart(t *testing.T) {
	g := grid(4, 3, 10, 0, 0)
	x, m := mapOf(t, g, box(0, 0, 15, 5))
	y, k := mapOf(t, g)
	same(t, y, k)
	puts(t, y, k, box(10, 0, 10, 20))
	same(t, x, m)
	same(t, y, k)
}

// TestGridIsOwn: a later change of a grid that was handed in or answered doesn't show.
func TestGridIsOwn(t *testing.T) {
	g := grid(4, 3, 10, 0, 0)
	x, err := tiles.New(g)
	if err != nil {
		t.Fatal(err)
	}
	g.W, g.Size = 1, 1
	answered := x.Grid()
	answered.H, answered.X = 1, 1
	if got := x.Grid(); got != (api.Grid{W: 4, H: 3, Size: 10}) {
		t.Fatalf("Grid: %v", got)
	}
	if got := x.Put(box(39, 29, 39, 29)); !slices.Equal(got, []int{11}) {
		t.Fatalf("Put: %v", got)
	}
}
