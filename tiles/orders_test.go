package tiles_test

import (
	"slices"
	"testing"

	"paddock/api"
)

// TestEveryOrder does some puts and drops in every order.
func TestEveryOrder(t *testing.T) {
	g := grid(2, 2, 2, -1, -2)
	boxes := []api.Box{box(-1, -2, 0, -1), box(0, -1, 1, -1), box(2, 0, 9, 9), box(-9, -9, 9, 9), box(-3, -3, -2, 9)}
	const steps = 4
	all := 1
	for range steps {
		all *= 2 * len(boxes)
	}
	for code := range all {
		x, m := mapOf(t, g)
		for range steps {
			b := boxes[code/2%len(boxes)]
			if code%2 == 0 {
				puts(t, x, m, b)
			} else {
				drops(t, x, m, b)
			}
			code /= 2 * len(boxes)
		}
		same(t, x, m)
	}
}

// TestDrawnOrders: long orders on drawn grids, in which what was put on is taken off again, and other boxes too.
func TestDrawnOrders(t *testing.T) {
	draw := drawer(3)
	for range 150 {
		g := drawnGrid(draw, 5)
		x, m := mapOf(t, g)
		var put []api.Box
		for range 40 {
			b := drawnBox(draw, g)
			if len(put) > 0 && draw(3) > 0 {
				b = put[draw(len(put))]
			}
			if draw(5) > 2 {
				puts(t, x, m, b)
				put = append(put, b)
			} else {
				drops(t, x, m, b)
			}
			sameTile(t, x, m, draw(g.W*g.H))
		}
		same(t, x, m)
	}
}

// TestAllOff: whatever order boxes were put on and taken off in, a map without them is free.
func TestAllOff(t *testing.T) {
	draw := drawer(8)
	for range 50 {
		g := drawnGrid(draw, 6)
		x, m := mapOf(t, g)
		var put []api.Box
		for range 12 {
			b := drawnBox(draw, g)
			puts(t, x, m, b)
			put = append(put, b)
		}
		for len(put) > 0 {
			i := draw(len(put))
			if _, err := x.Drop(put[i]); err != nil {
				t.Fatalf("Drop(%v): %v", put[i], err)
			}
			m.drop(put[i])
			put = slices.Delete(put, i, i+1)
			same(t, x, m)
		}
		if got := x.Blocked(); len(got) != 0 {
			t.Fatalf("blocked is %v", got)
		}
	}
}

// TestWholeGrid: the greatest grid is blocked row by row, and freed column by column.
func TestWholeGrid(t *testing.T) {
	x, _ := mapOf(t, grid(side, side, size, -coord, coord))
	var all []int
	for row := range side {
		var want []int
		for column := range side {
			want = append(want, row*side+column)
		}
		y := coord + row*size
		if got := x.Put(box(-reach, y, reach, y+size-1)); !slices.Equal(got, want) {
			t.Fatalf("Put of row %d: %v", row, got)
		}
		all = append(all, want...)
		if got := x.Blocked(); !slices.Equal(got, all) {
			t.Fatalf("with row %d blocked is %v", row, got)
		}
	}
	for column := range side {
		var want []int
		for row := range side {
			want = append(want, row*side+column)
		}
		left := -coord + column*size
		if got, err := x.Drop(box(left, -reach, left+size-1, reach)); err != nil || !slices.Equal(got, want) {
			t.Fatalf("Drop of column %d: %v, %v", column, got, err)
		}
		all = slices.DeleteFunc(all, func(n int) bool { return n%side == column })
		if got := x.Blocked(); !slices.Equal(got, all) {
			t.Fatalf("without column %d blocked is %v", column, got)
		}
	}
}
