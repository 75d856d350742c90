package steps_test

import (
	"slices"
	"testing"

	"paddock/api"
	"paddock/steps"
)

// smallGrids are the columns and rows of grids all of whose sets of blocked tiles are tried.
func smallGrids() [][2]int {
	return [][2]int{{1, 1}, {2, 1}, {1, 2}, {5, 1}, {1, 5}, {2, 2}, {3, 2}, {2, 3}, {3, 3}, {4, 2}, {2, 5}, {5, 2}}
}

// TestAllSmallGrids: every set of blocked tiles of small grids.
func TestAllSmallGrids(t *testing.T) {
	for _, s := range smallGrids() {
		for bits := range 1 << (s[0] * s[1]) {
			g, m := groundOf(t, s[0], s[1], setOf(bits, s[0]*s[1])...)
			same(t, g, m)
		}
	}
}

// TestGuessOfAllTiles: from all tiles of small grids, and from some of great ones.
func TestGuessOfAllTiles(t *testing.T) {
	for _, s := range append(smallGrids(), [2]int{7, 4}, [2]int{4, 7}, [2]int{32, 1}, [2]int{1, 32}) {
		g, m := groundOf(t, s[0], s[1])
		for from := -2; from < s[0]*s[1]+2; from++ {
			sameGuesses(t, g, m, from)
		}
	}
	for _, s := range [][2]int{{32, 32}, {32, 5}, {6, 31}} {
		g, m := groundOf(t, s[0], s[1])
		for _, from := range []int{-1, 0, 1, s[0] - 1, s[0], s[0]*s[1]/2 + s[0]/3, s[0] * (s[1] - 1), s[0]*s[1] - 1, s[0] * s[1]} {
			sameGuesses(t, g, m, from)
		}
	}
}

// allRows calls with all rows of a length of numbers from low to high.
func allRows(length, low, high int, call func(row []int)) {
	row := make([]int, length)
	var fill func(i int)
	fill = func(i int) {
		if i == length {
			call(row)
			return
		}
		for n := low; n <= high; n++ {
			row[i] = n
			fill(i + 1)
		}
	}
	fill(0)
}

// TestAllShortRows: every row of few numbers, of tiles and of what isn't one, on every set of blocked tiles.
func TestAllShortRows(t *testing.T) {
	for _, c := range []struct{ w, h, most int }{{1, 1, 5}, {2, 1, 5}, {1, 3, 4}, {2, 2, 4}, {3, 2, 3}, {3, 3, 2}} {
		for bits := range 1 << (c.w * c.h) {
			g, m := groundOf(t, c.w, c.h, setOf(bits, c.w*c.h)...)
			for length := range c.most + 1 {
				allRows(length, -1, c.w*c.h, func(row []int) { sameCost(t, g, m, row) })
			}
		}
	}
}

// drawnWalk goes by drawn steps from a free tile; the walk, and what its steps cost.
func drawnWalk(draw func(n int) int, g *steps.Ground, from, most int) ([]int, int) {
	walk, cost := []int{from}, 0
	for range draw(most) {
		around := g.Around(walk[len(walk)-1])
		if len(around) == 0 {
			break
		}
		s := around[draw(len(around))]
		walk, cost = append(walk, s.To), cost+s.Cost
	}
	return walk, cost
}

// TestDrawnWalks: long walks cost what their steps do, either way, and never less than their ends' Guess; with one number changed they mostly are none.
func TestDrawnWalks(t *testing.T) {
	draw := drawer(16)
	for range 300 {
		w, h := 1+draw(9), 1+draw(9)
		g, m := groundOf(t, w, h, drawnTiles(draw, w, h, 2+draw(5))...)
		from := draw(w * h)
		if !g.Free(from) {
			continue
		}
		walk, want := drawnWalk(draw, g, from, 60)
		if got, err := g.Cost(walk); got != want || err != nil {
			t.Fatalf("%d by %d, blocked %v: Cost(%v): %d, %v; its steps cost %d", w, h, m.blocks, walk, got, err, want)
		}
		if guess, err := g.Guess(from, walk[len(walk)-1]); err != nil || guess > want {
			t.Fatalf("%d by %d: Guess of %v: %d, %v; its steps cost %d", w, h, walk, guess, err, want)
		}
		sameCost(t, g, m, walk)
		back := slices.Clone(walk)
		slices.Reverse(back)
		if got, err := g.Cost(back); got != want || err != nil {
			t.Fatalf("%d by %d, blocked %v: Cost(%v): %d, %v; the way there costs %d", w, h, m.blocks, back, got, err, want)
		}
		for range 20 {
			other := slices.Clone(walk)
			other[draw(len(other))] = draw(w*h+2) - 1
			sameCost(t, g, m, other)
		}
	}
}

// TestVeryLongWalks: there is no limit to how long a row is.
func TestVeryLongWalks(t *testing.T) {
	g, _ := groundOf(t, 2, 2)
	walk := slices.Repeat([]int{0, 1, 3, 0, 3, 2}, 50000)
	if got, err := g.Cost(walk); got != 50000*(10+10+14+14+10+10)-10 || err != nil {
		t.Fatalf("Cost: %d, %v", got, err)
	}
	if got, err := g.Cost(append(walk, 2)); got != 0 || err != api.ErrPath {
		t.Fatalf("Cost with a stay at its end: %d, %v", got, err)
	}
	if got, err := g.Cost(append(walk, 4)); got != 0 || err != api.ErrRange {
		t.Fatalf("Cost with a wrong tile at its end: %d, %v", got, err)
	}
}

// goesBack holds that each step from a tile has one that goes back, at its cost.
func goesBack(t *testing.T, g *steps.Ground, from int) {
	t.Helper()
	for _, s := range g.Around(from) {
		want := steps.Step{Dir: (s.Dir + 4) % 8, To: from, Cost: s.Cost}
		if back, ok := g.Go(s.To, want.Dir); back != want || !ok {
			t.Fatalf("blocked %v: from %d by %v; back by %v, %v", g.Blocked(), from, s, back, ok)
		}
		there, err := g.Cost([]int{from, s.To})
		again, errAgain := g.Cost([]int{s.To, from})
		if there != s.Cost || again != s.Cost || err != nil || errAgain != nil {
			t.Fatalf("blocked %v: from %d by %v; costs %d, %v and %d, %v", g.Blocked(), from, s, there, err, again, errAgain)
		}
	}
}

// TestStepsGoBack: from all tiles, on every set of blocked tiles of small grids.
func TestStepsGoBack(t *testing.T) {
	for _, s := range smallGrids() {
		for bits := range 1 << (s[0] * s[1]) {
			g, _ := groundOf(t, s[0], s[1], setOf(bits, s[0]*s[1])...)
			for from := range s[0] * s[1] {
				goesBack(t, g, from)
			}
		}
	}
}

// TestNoWalkUndercutsGuess: the least walks cost Guess or more, and just it where all tiles are free.
func TestNoWalkUndercutsGuess(t *testing.T) {
	draw := drawer(2)
	for range 150 {
		w, h := 1+draw(8), 1+draw(8)
		g, m := groundOf(t, w, h, drawnTiles(draw, w, h, 1+draw(6))...)
		for from := range w * h {
			for to, cost := range m.costs(from) {
				guess, err := g.Guess(from, to)
				if err != nil || cost >= 0 && guess > cost || len(m.blocks) == 0 && guess != cost {
					t.Fatalf("%d by %d, blocked %v: Guess(%d, %d): %d, %v; the least walk costs %d", w, h, m.blocks, from, to, guess, err, cost)
				}
			}
		}
	}
}

// TestEveryOrder: all orders of few calls, on a grid of 3 by 2.
func TestEveryOrder(t *testing.T) {
	var walk func(g *steps.Ground, m *model, more int)
	walk = func(g *steps.Ground, m *model, more int) {
		same(t, g, m)
		if more == 0 {
			return
		}
		for n := -1; n <= 6; n++ {
			for _, free := range []bool{false, true} {
				x, k := g.Clone(), m.clone()
				sets(t, x, k, n, free)
				walk(x, k, more-1)
			}
		}
	}
	g, m := groundOf(t, 3, 2, 1)
	walk(g, m, 3)
}

// TestDrawnOrders: long orders of calls.
func TestDrawnOrders(t *testing.T) {
	draw := drawer(61)
	for range 40 {
		w, h := 1+draw(7), 1+draw(7)
		g, m := groundOf(t, w, h, drawnTiles(draw, w, h, 3)...)
		for range 60 {
			n := draw(w*h+2) - 1
			sets(t, g, m, n, draw(2) == 0)
			sameTile(t, g, m, n)
			sameTile(t, g, m, draw(w*h))
			sameCost(t, g, m, []int{draw(w * h), n})
		}
		same(t, g, m)
	}
}

// TestGreatGrids: grids at the limits, few tiles and many of them blocked.
func TestGreatGrids(t *testing.T) {
	draw := drawer(32)
	for _, s := range [][2]int{{32, 32}, {32, 1}, {1, 32}, {31, 32}, {32, 2}, {2, 32}} {
		for _, one := range []int{100, 4, 1} {
			w, h := s[0], s[1]
			g, m := groundOf(t, w, h, drawnTiles(draw, w, h, one)...)
			if got := g.Blocked(); !slices.Equal(got, m.blocks) {
				t.Fatalf("%v: blocked %v; asked is %v", s, got, m.blocks)
			}
			for _, n := range []int{0, 1, w - 1, w, w*h - w - 1, w*h - w, w*h - 2, w*h - 1, w * h} {
				sameTile(t, g, m, n)
			}
			for range 60 {
				n := draw(w * h)
				sameTile(t, g, m, n)
				goesBack(t, g, n)
			}
			for row := range h {
				sameTile(t, g, m, row*w)
				sameTile(t, g, m, row*w+w-1)
			}
		}
	}
}

// TestNoHistory: two grounds whose blocked tiles are the same answer the same, however it came.
func TestNoHistory(t *testing.T) {
	draw := drawer(7)
	for range 100 {
		w, h := 1+draw(6), 1+draw(6)
		list := drawnTiles(draw, w, h, 2)
		g, m := groundOf(t, w, h, list...)
		same(t, g, m)
		// One by one, and with tiles that are blocked for a while.
		x, k := groundOf(t, w, h)
		for _, n := range list {
			other := draw(w * h)
			was := k.free(other)
			sets(t, x, k, other, false)
			sets(t, x, k, other, was)
			sets(t, x, k, n, false)
		}
		same(t, x, m)
		// All blocked, and the others freed.
		y, l := groundOf(t, w, h, setOf(1<<(w*h)-1, w*h)...)
		for n := range w * h {
			if !slices.Contains(list, n) {
				sets(t, y, l, n, true)
			}
		}
		same(t, y, m)
	}
}

// TestGridsCornerAndSizeDontMatter: steps are those of the columns and rows alone.
func TestGridsCornerAndSizeDontMatter(t *testing.T) {
	for _, grid := range []api.Grid{{W: 4, H: 3, Size: 1}, {W: 4, H: 3, Size: size, X: coord, Y: -coord}, {W: 4, H: 3, Size: 77, X: -9, Y: 9}} {
		g, err := steps.Of(grid, 1, 5, 9)
		if err != nil {
			t.Fatal(err)
		}
		m := &model{4, 3, []int{1, 5, 9}}
		same(t, g, m)
		for n := range 12 {
			sameGuesses(t, g, m, n)
		}
	}
}
