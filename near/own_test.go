package near_test

import (
	"slices"
	"testing"

	"paddock/api"
	"paddock/near"
	"paddock/quad"
)

// roomy is a list with room behind it, into which an append of its own would write, and all of its memory.
func roomy[T any](list []T, behind T) (front, whole []T) {
	whole = slices.Concat(list, []T{behind, behind, behind, behind})
	return whole[:len(list)], whole
}

// spoil changes all of a list's memory, what lies behind it too.
func spoil[T any](list []T, with T) {
	list = list[:cap(list)]
	for i := range list {
		list[i] = with
	}
}

// answers are those lists that the calls answer.
func answers(t *testing.T, q *quad.Tree) [][]api.Handle {
	t.Helper()
	var all [][]api.Handle
	add := func(list []api.Handle, err error) {
		if err != nil {
			t.Fatal(err)
		}
		all = append(all, list)
	}
	for _, n := range []int{0, 1, 3, 9, 100} {
		add(near.Radius(q, point(3, 3), n))
		add(near.Nearest(q, point(3, 3), n))
		add(near.Around(q, handle(0, 1), n))
	}
	return all
}

// cloned are lists of their own memory.
func cloned(all [][]api.Handle) [][]api.Handle {
	var own [][]api.Handle
	for _, list := range all {
		own = append(own, slices.Clone(list))
	}
	return own
}

// severalBoxes are some of one cell and some of others.
func severalBoxes() []api.Box {
	return []api.Box{spot(3, 3), spot(3, 4), box(-edge, -edge, edge, edge), box(0, 0, 70000, 3), box(2, 2, 5, 5), spot(3, 3)}
}

// TestAnswersAreOwn: a change of an answer shows neither in the tree nor in another answer.
func TestAnswersAreOwn(t *testing.T) {
	q, m := treeOf(t, severalBoxes()...)
	first := answers(t, q)
	was := cloned(first)
	for i, list := range answers(t, q) {
		spoil(list, handle(-7, -7))
		if !slices.EqualFunc(first, was, slices.Equal) || !slices.EqualFunc(answers(t, q), was, slices.Equal) {
			t.Fatalf("after answer %d was changed: %v, %v; asked is %v", i, first, answers(t, q), was)
		}
	}
	sameAll(t, q, m, point(3, 3))
	for i := range severalBoxes() {
		puts(t, q, m, handle(i, 1), box(i, -i, i, i))
		puts(t, q, m, handle(i, 9), box(-i, -i, i, i))
	}
	if !slices.EqualFunc(first, was, slices.Equal) {
		t.Fatalf("after the tree was changed: %v; asked is %v", first, was)
	}
}

// TestListsStay: the handles that Closest leaves out are as they were, in their order, and what lies behind them.
func TestListsStay(t *testing.T) {
	q, m := treeOf(t, severalBoxes()...)
	for _, but := range [][]api.Handle{nil, firsts(5, 0), firsts(5, 5, 0, 5), firsts(9, 1, 3, 0, 2, 5, 4), firsts(4, 3, -1)} {
		list, whole := roomy(but, handle(-7, -7))
		was := slices.Clone(whole)
		for _, p := range []api.Point{point(3, 3), point(-40, 90), point(coord+1, 0)} {
			sameClosest(t, q, m, p, list...)
		}
		if !slices.Equal(whole, was) {
			t.Fatalf("what was handed in became %v; it was %v", whole, was)
		}
		// A later change of the list doesn't show.
		spoil(list, handle(0, 1))
		sameClosest(t, q, m, point(3, 3))
	}
}

// TestTreeStays: no call changes the tree.
func TestTreeStays(t *testing.T) {
	q, m := treeOf(t, severalBoxes()...)
	handles, nodes := q.Handles(), q.Nodes()
	sameAll(t, q, m, point(3, 3), point(coord+1, 0))
	sameAround(t, q, m, handle(9, 9), 1)
	if !slices.Equal(q.Handles(), handles) || !slices.Equal(q.Nodes(), nodes) || q.Len() != len(m.list) {
		t.Fatalf("the tree has %v, %v; it had %v, %v", q.Handles(), q.Nodes(), handles, nodes)
	}
	for _, x := range m.list {
		if b, has := q.Box(x.handle); b != x.box || !has {
			t.Fatalf("the box of %v became %v, %v", x.handle, b, has)
		}
	}
}

// TestTreesAreApart: what stands in one tree isn't near in another one.
func TestTreesAreApart(t *testing.T) {
	a, m := treeOf(t, severalBoxes()...)
	b, k := treeOf(t, spot(9, 9))
	sameAll(t, a, m, point(3, 3))
	sameAll(t, b, k, point(3, 3))
	drops(t, b, k, handle(0, 1))
	sameAll(t, a, m, point(3, 3))
	sameAll(t, b, k, point(3, 3))
	sameAround(t, b, k, handle(0, 1), 3)
}

// TestWithinAWalk: calls may be made while the tree is walked over.
func TestWithinAWalk(t *testing.T) {
	q, m := treeOf(t, severalBoxes()...)
	told := 0
	q.Walk(func(quad.Cell) bool { return true }, func(h api.Handle, b api.Box) {
		sameAll(t, q, m, point(3, 3))
		told++
	})
	if told != len(m.list) {
		t.Fatalf("%d boxes are told of %d", told, len(m.list))
	}
}
