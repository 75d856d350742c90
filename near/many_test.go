package near_test

import (
	"slices"
	"testing"

	"paddock/api"
	"paddock/near"
	"paddock/quad"
)

// TestSmallPlanes goes through all choices of some small boxes, asked about from all points near by.
func TestSmallPlanes(t *testing.T) {
	boxes := []api.Box{spot(0, 0), spot(1, 0), box(0, 0, 1, 1), box(-1, -1, 0, 0), spot(-1, 1), box(-2, -1, 3, 1), box(-30000, 0, 30001, 1)}
	for choice := range 1 << len(boxes) {
		q, m := treeOf(t)
		for i, b := range boxes {
			if choice>>i&1 == 1 {
				puts(t, q, m, handle((i*5)%7, i%2), b)
			}
		}
		for x := -2; x <= 2; x++ {
			for y := -2; y <= 2; y++ {
				sameAll(t, q, m, point(x, y))
			}
		}
	}
}

// TestDrawnTrees holds all calls against the model, of trees that are wide or dense, asked about from near them and from afar.
func TestDrawnTrees(t *testing.T) {
	for seed := range uint64(40) {
		draw := drawer(seed)
		wide := 1 << draw(23)
		at := point(draw(2*coord+1)-coord, draw(2*coord+1)-coord)
		q, m := treeOf(t)
		for i := range draw(30) + 1 {
			puts(t, q, m, handle(draw(9), i), drawnBox(draw, at, wide))
		}
		points := []api.Point{at, drawnPoint(draw, point(0, 0), coord), point(coord, -coord)}
		for range 4 {
			points = append(points, drawnPoint(draw, at, wide))
		}
		sameAll(t, q, m, points...)
	}
}

// TestFullTrees asks of trees of more boxes than a world has, by drawn numbers.
func TestFullTrees(t *testing.T) {
	for seed := range uint64(8) {
		draw := drawer(seed + 90)
		wide := 1 << (4 + 3*draw(7))
		q, m := treeOf(t)
		for i := range 300 {
			puts(t, q, m, handle(draw(40), i), drawnBox(draw, point(0, 0), wide))
		}
		for range 60 {
			p := drawnPoint(draw, point(0, 0), 2*wide)
			sameRadius(t, q, m, p, draw(2*wide))
			sameNearest(t, q, m, p, draw(320))
			sameAround(t, q, m, m.list[draw(300)].handle, draw(2*wide))
			all, _ := m.nearest(p, draw(320))
			sameClosest(t, q, m, p, shuffled(draw, all)...)
		}
	}
}

// TestChanges: after each change of a tree the answers are those of its boxes as they are now.
func TestChanges(t *testing.T) {
	for seed := range uint64(6) {
		draw := drawer(seed + 7)
		at, wide := point(300, -70000), 1<<(3*seed+3)
		q, m := treeOf(t)
		for range 120 {
			h := handle(draw(4), draw(3))
			if m.find(h) >= 0 && draw(3) == 0 {
				drops(t, q, m, h)
			} else {
				puts(t, q, m, h, drawnBox(draw, at, wide))
			}
			sameAll(t, q, m, at, drawnPoint(draw, at, wide))
			sameAround(t, q, m, handle(draw(5), draw(4)), draw(wide))
		}
	}
}

// TestNoHistory: trees that came to the same boxes by other ways answer the same.
func TestNoHistory(t *testing.T) {
	draw := drawer(11)
	_, m := treeOf(t)
	for i := range 40 {
		m.put(handle(i%6, i), drawnBox(draw, point(0, 0), 40000*(i%3)))
	}
	for way := range uint64(10) {
		draw := drawer(way + 30)
		q := quad.New()
		for _, x := range shuffled(draw, m.list) {
			q.Put(handle(99, 99), drawnBox(draw, point(0, 0), 9))
			q.Put(x.handle, drawnBox(draw, point(0, 0), 9))
		}
		q.Drop(handle(99, 99))
		for _, x := range shuffled(draw, m.list) {
			q.Put(x.handle, x.box)
		}
		sameAll(t, q, m, point(0, 0), point(-40000, 7))
	}
}

// TestMoreThanAHeap: there is no limit to how many boxes there are, at one place or at many.
func TestMoreThanAHeap(t *testing.T) {
	const n = 9000 // twice as many are more than api.MaxHeap, 16384
	q := quad.New()
	var want []api.Handle
	for i := range n {
		h := handle(n-i, 1)
		if q.Put(h, spot(50*i, -30*i)) != nil || q.Put(handle(i, 2), box(-9, -9, -1, -1)) != nil {
			t.Fatal("a box is refused")
		}
		want = append(want, h)
	}
	var crowd []api.Handle
	for i := range n {
		crowd = append(crowd, handle(i, 2))
	}
	if got, err := near.Nearest(q, point(-5, -5), n); err != nil || !slices.Equal(got, crowd) {
		t.Fatalf("%d are nearest; %v", len(got), err)
	}
	if got, err := near.Nearest(q, point(-5, -5), 3*n); err != nil || !slices.Equal(got, slices.Concat(crowd, want)) {
		t.Fatalf("%d are nearest; %v", len(got), err)
	}
	if got, err := near.Radius(q, point(-5, -5), 0); err != nil || !slices.Equal(got, crowd) {
		t.Fatalf("%d lie within; %v", len(got), err)
	}
	if got, has, err := near.Closest(q, point(-5, -5), slices.Concat(crowd, crowd, want[:n-1])...); got != want[n-1] || !has || err != nil {
		t.Fatalf("Closest: %v, %v, %v", got, has, err)
	}
	if got, err := near.Around(q, handle(5, 2), longest); err != nil || len(got) != 2*n-1 {
		t.Fatalf("%d lie around; %v", len(got), err)
	}
}
