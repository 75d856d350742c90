package quad_test

import (
	"fmt"
	"slices"
	"testing"

	"paddock/api"
	"paddock/quad"
)

// call is a call that changes a tree, or is refused.
type call struct {
	name string
	do   func(q *quad.Tree, m *model)
}

// calls are the calls of a short row: boxes of cells that are one another's, or lie in one another, and ones that are refused.
func calls(t *testing.T) []call {
	var all []call
	boxes := []api.Box{box(3, 3, 3, 3), box(2, 1, 9, 5), box(16390, 0, 16390, 4), box(0, 0, 16385, 16385), box(-8, -edge, 8, edge), box(0, 0, edge+1, 0)}
	for _, h := range []api.Handle{handle(1, 2), handle(1, 1), handle(0, 7)} {
		all = append(all, call{fmt.Sprintf("Drop %v;", h), func(q *quad.Tree, m *model) { drops(t, q, m, h) }})
		for _, b := range boxes {
			all = append(all, call{fmt.Sprintf("Put %v %v;", h, b), func(q *quad.Tree, m *model) { puts(t, q, m, h, b) }})
		}
	}
	return all
}

// TestAllOrders goes through all short rows of calls, each on a new tree.
func TestAllOrders(t *testing.T) {
	const steps = 3
	all := calls(t)
	var row []call
	var try func(names string)
	try = func(names string) {
		q, m := quad.New(), &model{}
		for _, c := range row {
			c.do(q, m)
		}
		same(t, names, q, m, handle(1, 1), handle(0, 7))
		if len(row) == steps {
			return
		}
		for _, c := range all {
			row = append(row, c)
			try(names + c.name)
			row = row[:len(row)-1]
		}
	}
	try("")
}

// TestLongOrders lets a tree grow and shrink to and fro, with boxes of all sizes, and ones that are near each other.
func TestLongOrders(t *testing.T) {
	for seed := range uint64(8) {
		draw := drawer(seed + 20)
		q, m := quad.New(), &model{}
		for step := range 900 {
			h := handle(draw(5), draw(5))
			grows := step/150%2 == 0
			if k := draw(10); k < 8 == grows {
				b := drawnBox(draw)
				if seed%2 == 1 {
					b = box(b.X0%50000, b.Y0%50000, b.X1, b.Y1)
				}
				puts(t, q, m, h, b)
			} else {
				drops(t, q, m, h)
			}
			same(t, fmt.Sprintf("row %d, step %d", seed, step), q, m, h)
		}
	}
}

// walked is what a walk asks and tells of a tree, as it comes.
func walked(q *quad.Tree) (asked []quad.Cell, all []held) {
	q.Walk(func(c quad.Cell) bool {
		asked = append(asked, c)
		return true
	}, func(h api.Handle, b api.Box) { all = append(all, held{h, b}) })
	return asked, all
}

// TestNoHistory (P12.2): trees that came to the same boxes by other ways answer the same, a walk goes the same way too.
func TestNoHistory(t *testing.T) {
	draw := drawer(9)
	first, m := quad.New(), &model{}
	for i := range 60 {
		b := drawnBox(draw)
		if i%2 == 0 {
			b = box(i, i, i+5000*draw(5), i+5)
		}
		puts(t, first, m, handle(draw(9), i), b)
	}
	same(t, "the first way", first, m)
	asked, all := walked(first)
	for way := range uint64(20) {
		draw := drawer(way)
		q := quad.New()
		for _, x := range shuffled(draw, m.list) {
			other := m.list[draw(len(m.list))].handle
			q.Put(other, drawnBox(draw))
			q.Drop(other)
			q.Put(x.handle, drawnBox(draw))
		}
		for _, x := range shuffled(draw, m.list) {
			if err := q.Put(x.handle, x.box); err != nil {
				t.Fatal(err)
			}
		}
		same(t, fmt.Sprint("way ", way), q, m)
		if a, l := walked(q); !slices.Equal(a, asked) || !slices.Equal(l, all) {
			t.Fatalf("way %d: a walk goes by %v, %v; the first one went by %v, %v", way, a, l, asked, all)
		}
	}
}

// TestPutOfTheSame: a box that is put once more changes nothing.
func TestPutOfTheSame(t *testing.T) {
	q, m := treeOf(t, box(3, 3, 3, 3), box(3, 3, 3, 3), box(0, 0, 70000, 1), box(-edge, 0, edge, 0))
	for _, x := range slices.Clone(m.list) {
		for range 3 {
			puts(t, q, m, x.handle, x.box)
			same(t, "put once more", q, m)
		}
	}
}

// TestEmptied: a tree whose boxes are all gone is like a new one, however they went.
func TestEmptied(t *testing.T) {
	boxes := []api.Box{box(1, 1, 3, 3), box(2, 2, 2, 2), box(0, 0, 900000, 9), box(-9, -9, -9, -9), box(-edge, -edge, edge, edge), box(1, 1, 40000, 3)}
	for seed := range uint64(30) {
		q, m := treeOf(t, boxes...)
		for range 2 {
			for _, x := range shuffled(drawer(seed), m.list) {
				drops(t, q, m, x.handle)
				same(t, "shrinking", q, m, x.handle)
			}
			for i := range boxes {
				drops(t, q, m, handle(i, 1))
			}
			for i, b := range boxes {
				puts(t, q, m, handle(i, 2), b)
				same(t, "growing again", q, m, handle(i, 1))
			}
		}
	}
}
