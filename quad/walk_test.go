package quad_test

import (
	"fmt"
	"slices"
	"testing"

	"paddock/api"
	"paddock/quad"
)

// TestWalkByHand writes down of which cells is asked, and which boxes are told.
func TestWalkByHand(t *testing.T) {
	q, _ := treeOf(t, box(-edge, 0, edge, 0), box(-9, -edge, 0, 0), box(1, 1, edge, 2), box(-600000, -600000, -5, -600000), box(-600000, 600000, -5, 600000))
	world, one, two, three := cell(0, 0, 0), cell(1, 0, 0), cell(1, 1, 1), cell(1, 0, 1)
	inOne, inThree := cell(2, 1, 1), cell(2, 1, 2)
	for _, c := range []struct {
		no    []quad.Cell
		asked []quad.Cell
		told  []int
	}{
		{nil, []quad.Cell{world, one, three, two, inOne, inThree}, []int{0, 1, 2, 3, 4}},
		{[]quad.Cell{world}, []quad.Cell{world}, nil},
		{[]quad.Cell{one}, []quad.Cell{world, one, three, two, inThree}, []int{0, 2, 4}},
		{[]quad.Cell{two}, []quad.Cell{world, one, three, two, inOne, inThree}, []int{0, 1, 3, 4}},
		{[]quad.Cell{three}, []quad.Cell{world, one, three, two, inOne}, []int{0, 1, 2, 3}},
		{[]quad.Cell{inOne}, []quad.Cell{world, one, three, two, inOne, inThree}, []int{0, 1, 2, 4}},
		{[]quad.Cell{one, inOne, three, two}, []quad.Cell{world, one, three, two}, []int{0}},
		{[]quad.Cell{world, one}, []quad.Cell{world}, nil},
	} {
		var asked []quad.Cell
		var told, want []api.Handle
		q.Walk(func(d quad.Cell) bool {
			asked = append(asked, d)
			return !slices.Contains(c.no, d)
		}, func(h api.Handle, b api.Box) { told = append(told, h) })
		for _, i := range c.told {
			want = append(want, handle(i, 1))
		}
		if got := sortedCells(asked); !slices.Equal(got, c.asked) {
			t.Errorf("no to %v: asked of %v; asked is %v", c.no, got, c.asked)
		}
		if got := sorted(told); !slices.Equal(got, want) {
			t.Errorf("no to %v: told of %v; asked is %v", c.no, got, want)
		}
	}
}

// TestWalkOfNothing: of a tree without boxes the whole square is asked, and nothing is told.
func TestWalkOfNothing(t *testing.T) {
	for _, yes := range []bool{false, true} {
		sameWalk(t, "nothing", quad.New(), &model{}, func(quad.Cell) bool { return yes })
	}
}

// TestWalkBelow: a cell is asked only after the one above it was entered, each once.
func TestWalkBelow(t *testing.T) {
	draw := drawer(5)
	q, m := quad.New(), &model{}
	for i := range 80 {
		puts(t, q, m, handle(i, 1), drawnBox(draw))
	}
	entered := map[quad.Cell]bool{}
	q.Walk(func(c quad.Cell) bool {
		if up := upTo(c); entered[c] || len(up) > 1 && !entered[up[1]] {
			t.Fatalf("%v is asked twice, or ahead of the one above", c)
		}
		entered[c] = true
		return true
	}, func(h api.Handle, b api.Box) {
		if !entered[cellOf(b)] {
			t.Fatalf("%v is told ahead of its cell", h)
		}
	})
}

// TestWalkOfMany answers by drawn numbers, by depths, and by where cells are.
func TestWalkOfMany(t *testing.T) {
	for seed := range uint64(20) {
		draw := drawer(seed)
		q, m := quad.New(), &model{}
		for i := range 60 {
			puts(t, q, m, handle(i%7, i), drawnBox(draw))
		}
		for n := range 40 {
			answers := map[quad.Cell]bool{}
			for _, c := range m.nodes() {
				answers[c] = c.Depth < n/10 || draw(10) > 1
			}
			sameWalk(t, fmt.Sprintf("tree %d, walk %d", seed, n), q, m, func(c quad.Cell) bool { return answers[c] })
		}
		for n := range deep + 2 {
			sameWalk(t, fmt.Sprint("to depth ", n), q, m, func(c quad.Cell) bool { return c.Depth < n })
			sameWalk(t, fmt.Sprint("not depth ", n), q, m, func(c quad.Cell) bool { return c.Depth != n })
			sameWalk(t, fmt.Sprint("the left at ", n), q, m, func(c quad.Cell) bool { return c.Depth <= n || c.X%2 == 0 })
		}
	}
}

// TestWalkWithoutFunctions: none to ask enters nothing; none to tell is told nothing.
func TestWalkWithoutFunctions(t *testing.T) {
	q, m := treeOf(t, box(3, 3, 3, 3), box(-edge, -edge, edge, edge), box(0, 0, 70000, 3))
	q.Walk(nil, nil)
	q.Walk(nil, func(h api.Handle, b api.Box) { t.Fatalf("%v is told, and nothing was entered", h) })
	var asked []quad.Cell
	q.Walk(func(c quad.Cell) bool {
		asked = append(asked, c)
		return true
	}, nil)
	if got := sortedCells(asked); !slices.Equal(got, m.nodes()) {
		t.Fatalf("asked of %v; asked is %v", got, m.nodes())
	}
	same(t, "walks without functions", q, m)
}

// TestWalkThatPanics: what is handed in may panic, at the first cell or box, or later; the walk ends there, and doesn't panic.
func TestWalkThatPanics(t *testing.T) {
	q, m := treeOf(t, box(3, 3, 3, 3), box(3, 4, 3, 4), box(-edge, -edge, edge, edge), box(0, 0, 70000, 3), box(-9, -9, -9, -9))
	for last := range len(m.nodes()) + len(m.list) {
		n := 0
		count := func() {
			if n == last {
				panic("no further")
			}
			n++
		}
		q.Walk(func(quad.Cell) bool { count(); return true }, func(api.Handle, api.Box) { count() })
		if n != last {
			t.Fatalf("%d calls, where %d are asked for", n, last)
		}
		same(t, "a walk that panics", q, m)
	}
}

// TestChangesWithinAWalk: a walk goes over the tree as it was, whatever its functions put and drop there, and ends.
func TestChangesWithinAWalk(t *testing.T) {
	for seed := range uint64(20) {
		draw := drawer(seed + 3)
		q, m := quad.New(), &model{}
		for i := range 40 {
			puts(t, q, m, handle(i, 1), drawnBox(draw))
		}
		asked, all := walked(q)
		var nowAsked []quad.Cell
		var nowTold []held
		change := func() {
			for range 2 {
				h := handle(draw(60), 1)
				if draw(2) == 0 {
					puts(t, q, m, h, drawnBox(draw))
				} else {
					drops(t, q, m, h)
				}
			}
		}
		q.Walk(func(c quad.Cell) bool {
			nowAsked = append(nowAsked, c)
			change()
			return true
		}, func(h api.Handle, b api.Box) {
			nowTold = append(nowTold, held{h, b})
			change()
			sameMeeting(t, "within a walk", q, m, b)
		})
		if !slices.Equal(nowAsked, asked) || !slices.Equal(nowTold, all) {
			t.Fatalf("a walk with changes goes by %v, %v; without it went by %v, %v", nowAsked, nowTold, asked, all)
		}
		same(t, "changes within a walk", q, m, handle(59, 1))
	}
}

// TestWalksWithinAWalk: of each cell, and of each box, a walk may go on over the same tree.
func TestWalksWithinAWalk(t *testing.T) {
	q, m := treeOf(t, box(3, 3, 3, 3), box(3, 4, 3, 4), box(-edge, -edge, edge, edge), box(0, 0, 70000, 3))
	walks := 0
	q.Walk(func(quad.Cell) bool {
		same(t, "at a cell", q, m)
		return true
	}, func(api.Handle, api.Box) {
		same(t, "at a box", q, m)
		walks++
	})
	if walks != len(m.list) {
		t.Fatalf("%d boxes are told of %d", walks, len(m.list))
	}
}
