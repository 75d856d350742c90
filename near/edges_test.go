package near_test

import (
	"math"
	"slices"
	"testing"

	"paddock/api"
	"paddock/near"
)

// edgeBoxes have centres at the corners and sides of the world's square, at the ends of what may be asked about, and at 0.
func edgeBoxes() []api.Box {
	return []api.Box{
		spot(-edge, -edge), spot(edge, edge), spot(-edge, edge), spot(edge, -edge), spot(edge, 0), spot(0, edge), spot(edge-1, edge-1),
		box(edge-1, -edge, edge, -edge+1), box(-edge, -edge, edge, edge), box(-edge, -1, edge, 0), spot(0, 0), spot(-1, -1),
		spot(coord, coord), spot(-coord, -coord), spot(coord+1, coord), spot(-coord, -coord-1), box(coord, coord, coord+1, coord+1), box(0, 0, edge, edge),
	}
}

// TestRadiusAtEdges tries edge numbers at all three places.
func TestRadiusAtEdges(t *testing.T) {
	q, m := treeOf(t, edgeBoxes()...)
	for _, x := range edgeNumbers() {
		for _, y := range edgeNumbers() {
			for _, r := range edgeNumbers() {
				sameRadius(t, q, m, point(x, y), r)
			}
		}
	}
}

// TestNearestAtEdges tries edge numbers at all three places, and Closest at the point.
func TestNearestAtEdges(t *testing.T) {
	q, m := treeOf(t, edgeBoxes()...)
	all := m.inOrder(func(x held) []int { return []int{x.handle.Index} })
	for _, x := range edgeNumbers() {
		for _, y := range edgeNumbers() {
			for _, k := range edgeNumbers() {
				sameNearest(t, q, m, point(x, y), k)
			}
			sameClosest(t, q, m, point(x, y))
			sameClosest(t, q, m, point(x, y), all...)
			sameClosest(t, q, m, point(x, y), all[:len(all)-1]...)
			sameClosest(t, q, m, point(x, y), all[1:]...)
		}
	}
}

// TestAroundAtEdges tries edge numbers as centres and as radii, of handles with a box and of one without.
func TestAroundAtEdges(t *testing.T) {
	q, m := treeOf(t, edgeBoxes()...)
	numbers := slices.DeleteFunc(edgeNumbers(), func(n int) bool { return n < -edge || n > edge })
	for _, x := range numbers {
		for _, y := range numbers {
			puts(t, q, m, handle(50, 1), spot(x, y))
			for _, r := range edgeNumbers() {
				sameAround(t, q, m, handle(50, 1), r)
				sameAround(t, q, m, handle(50, 2), r)
			}
		}
	}
	for _, x := range m.list {
		for _, r := range edgeNumbers() {
			sameAround(t, q, m, x.handle, r)
		}
	}
}

// TestBeyondMaxRadius: what is farther than the greatest radius is among the nearest ones, and in no radius.
func TestBeyondMaxRadius(t *testing.T) {
	for _, at := range []api.Point{point(coord, coord), point(-coord, coord), point(coord, -coord), point(-coord, -coord)} {
		b := spot(-2*at.X, -2*at.Y)
		q, m := treeOf(t, b)
		if got, err := near.Radius(q, at, longest); err != nil || len(got) != 0 {
			t.Errorf("Radius(%v, %d) of %v: %v, %v", at, longest, b, got, err)
		}
		if got, err := near.Nearest(q, at, 1); err != nil || !slices.Equal(got, firsts(0)) {
			t.Errorf("Nearest(%v, 1) of %v: %v, %v", at, b, got, err)
		}
		if got, has, err := near.Closest(q, at); err != nil || !has || got != handle(0, 1) {
			t.Errorf("Closest(%v) of %v: %v, %v, %v", at, b, got, has, err)
		}
		same(t, q, m, at)
	}
}

// TestExactRadius: of distances that are whole numbers the box is within just from them on, on all sides and over any line between cells.
func TestExactRadius(t *testing.T) {
	sides := [][3]int{{3, 4, 5}, {0, 7, 7}, {5, 12, 13}, {20, 21, 29}, {0, 1, 1}, {119, 120, 169}, {696, 697, 985}}
	for _, at := range []api.Point{point(0, 0), point(-1, -1), point(16384, 16383), point(-524288, 524287), point(coord, -coord)} {
		for _, s := range sides {
			for _, times := range []int{1, 17, 1000} {
				for _, sign := range []api.Point{point(1, 1), point(1, -1), point(-1, 1), point(-1, -1)} {
					x, y := at.X+sign.X*s[0]*times, at.Y+sign.Y*s[1]*times
					q, _ := treeOf(t, spot(x, y), box(x-9, y-9, x+9, y+9), box(x-100000, y, x+100001, y+1))
					r := s[2] * times
					if got, err := near.Radius(q, at, r); err != nil || !slices.Equal(got, firsts(0, 1, 2)) {
						t.Fatalf("Radius(%v, %d) of (%d, %d): %v, %v", at, r, x, y, got, err)
					}
					if got, err := near.Radius(q, at, r-1); err != nil || len(got) != 0 {
						t.Fatalf("Radius(%v, %d) of (%d, %d): %v, %v", at, r-1, x, y, got, err)
					}
				}
			}
		}
	}
}

// TestCentresAlongLines puts boxes of the cells of each depth on both sides of a line between cells, and asks from the other side.
func TestCentresAlongLines(t *testing.T) {
	for side := 16384; side <= coord; side *= 2 {
		for _, line := range []int{-side, 0, side, coord - side, edge - side} {
			half := min(side/2, edge-max(line+1, -line+1))
			q, m := treeOf(t,
				box(line-half, -3, line+half, 3), box(line-1-half, -3, line-1+half, 3), box(line+1-half, -3, line+1+half, 3),
				box(-3, line-half, 3, line+half), box(-3, line-1-half, 3, line-1+half), spot(line, line), spot(line-1, line-1), spot(line-1, line))
			for _, d := range []int{-side - 1, -side, -2, -1, 0, 1, 2, side - 1, side} {
				for _, p := range []api.Point{point(line+d, 0), point(0, line+d), point(line+d, line+d), point(line+d, line-d)} {
					if !isWrong(p) {
						same(t, q, m, p)
					}
				}
			}
		}
	}
}

// TestOddHandles: handles that differ by one number alone are different ones; of one distance they come in their order.
func TestOddHandles(t *testing.T) {
	all := oddHandles()
	q, m := treeOf(t)
	for i, h := range shuffled(drawer(4), all) {
		puts(t, q, m, h, box(-3, -3, 3+i%2, 3))
	}
	if got, err := near.Nearest(q, point(5, 5), math.MaxInt); err != nil || !slices.Equal(got, all) {
		t.Fatalf("Nearest: %v, %v", got, err)
	}
	if got, err := near.Radius(q, point(3, 4), 5); err != nil || !slices.Equal(got, all) {
		t.Fatalf("Radius: %v, %v", got, err)
	}
	for i, h := range all {
		if got, err := near.Nearest(q, point(5, 5), i); err != nil || !slices.Equal(got, all[:i]) {
			t.Fatalf("Nearest of %d: %v, %v", i, got, err)
		}
		if got, has, err := near.Closest(q, point(5, 5), all[:i]...); got != h || !has || err != nil {
			t.Fatalf("Closest but %d: %v, %v, %v", i, got, has, err)
		}
		want := slices.Concat(all[:i], all[i+1:])
		if got, err := near.Around(q, h, 0); err != nil || !slices.Equal(got, want) {
			t.Fatalf("Around(%v, 0): %v, %v", h, got, err)
		}
	}
	if got, has, err := near.Closest(q, point(5, 5), shuffled(drawer(6), all)...); got != (api.Handle{}) || has || err != nil {
		t.Fatalf("Closest but all: %v, %v, %v", got, has, err)
	}
}
