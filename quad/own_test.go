package quad_test

import (
	"slices"
	"testing"

	"paddock/api"
	"paddock/quad"
)

// spoil changes all of a list's memory, what lies behind it too.
func spoil[T any](list []T, with T) {
	list = list[:cap(list)]
	for i := range list {
		list[i] = with
	}
}

// severalBoxes are some of one cell and some of others.
func severalBoxes() []api.Box {
	return []api.Box{box(3, 3, 3, 3), box(3, 4, 3, 4), box(-edge, -edge, edge, edge), box(0, 0, 70000, 3), box(2, 2, 5, 5)}
}

func TestAnswersAreOwn(t *testing.T) {
	meeting := func(q *quad.Tree) []api.Handle {
		list, err := q.Meeting(box(-reach, -reach, reach, reach))
		if err != nil {
			t.Fatal(err)
		}
		return list
	}
	stranger, nowhere := handle(-7, -7), cell(-1, -1, -1)
	for n := range len(severalBoxes()) + 1 {
		q, m := treeOf(t, severalBoxes()[:n]...)
		handles, nodes, meet := q.Handles(), q.Nodes(), meeting(q)
		all, cells := m.handles(func(api.Box) bool { return true }), m.nodes()
		spoil(q.Handles(), stranger)
		spoil(q.Nodes(), nowhere)
		spoil(meeting(q), stranger)
		_ = append(q.Handles(), stranger)
		_ = append(q.Nodes(), nowhere)
		_ = append(meeting(q), stranger)
		same(t, "answers are changed", q, m)
		for i := range n {
			puts(t, q, m, handle(i, 1), box(i, -i, i, i))
			drops(t, q, m, handle(i/2, 1))
			puts(t, q, m, handle(i, 9), box(-i, -i, i, i))
			same(t, "after answers were changed", q, m)
		}
		if !slices.Equal(handles, all) || !slices.Equal(meet, all) || !slices.Equal(nodes, cells) {
			t.Fatalf("earlier answers became %v, %v, %v", handles, meet, nodes)
		}
	}
}

// TestTreesAreApart: what is done to one tree doesn't show in another one.
func TestTreesAreApart(t *testing.T) {
	a, m := treeOf(t, severalBoxes()...)
	b, k := treeOf(t, severalBoxes()...)
	drops(t, a, m, handle(3, 1))
	puts(t, a, m, handle(7, 1), box(3, 3, 3, 3))
	puts(t, b, k, handle(0, 1), box(4, 4, 8, 8))
	same(t, "the one", a, m, handle(3, 1))
	same(t, "the other", b, k, handle(7, 1))
}
