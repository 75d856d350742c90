package steps_test

import (
	"math"
	"slices"
	"strings"
	"testing"

	"paddock/api"
	"paddock/steps"
)

// TestExample is the document's.
func TestExample(t *testing.T) {
	g, err := steps.Of(api.Grid{W: 3, H: 3, Size: 1}, 1)
	if err != nil {
		t.Fatal(err)
	}
	if s, ok := g.Go(0, api.SouthEast); s != (steps.Step{}) || ok {
		t.Fatalf("Go(0, SouthEast): %v, %v", s, ok)
	}
	if cost, err := g.Cost([]int{0, 3, 4}); cost != 20 || err != nil {
		t.Fatalf("Cost: %d, %v", cost, err)
	}
}

// takes tells whether Of takes a grid, with and without tiles: a grid that isn't right is refused ahead of tiles that aren't there.
func takes(t *testing.T, grid api.Grid, want bool) {
	t.Helper()
	g, err := steps.Of(grid)
	if want && (err != nil || g == nil) || !want && (err != api.ErrForm || g != nil) {
		t.Fatalf("Of(%v): %v, %v; it is right: %v", grid, g, err, want)
	}
	wantErr := api.ErrRange
	if !want {
		wantErr = api.ErrForm
	}
	if g, err := steps.Of(grid, 0, -1); err != wantErr || g != nil {
		t.Fatalf("Of(%v, 0, -1): %v, %v; asked is %v", grid, g, err, wantErr)
	}
}

// TestOfGrids: a grid is taken if it is right, else refused; all its tiles are free.
func TestOfGrids(t *testing.T) {
	for _, grid := range []api.Grid{
		{W: 1, H: 1, Size: 1}, {W: side, H: side, Size: size, X: coord, Y: coord}, {W: side, H: 1, Size: 1, X: -coord, Y: -coord},
		{W: 1, H: side, Size: size, X: coord, Y: -coord}, {W: 5, H: 4, Size: 3, X: -1, Y: 2},
	} {
		takes(t, grid, true)
		g, err := steps.Of(grid)
		if err != nil || g.Len() != grid.W*grid.H || len(g.Blocked()) != 0 {
			t.Fatalf("Of(%v): %d tiles, blocked %v, %v", grid, g.Len(), g.Blocked(), err)
		}
		same(t, g, &model{w: grid.W, h: grid.H})
	}
	for _, n := range append(edgeNumbers(), -coord-1, -coord, coord, coord+1, size+1) {
		g := api.Grid{W: 2, H: 3, Size: 4, X: 5, Y: 6}
		isSide, isAt := n >= 1 && n <= 32, n >= -1048576 && n <= 1048576
		takes(t, api.Grid{W: n, H: g.H, Size: g.Size, X: g.X, Y: g.Y}, isSide)
		takes(t, api.Grid{W: g.W, H: n, Size: g.Size, X: g.X, Y: g.Y}, isSide)
		takes(t, api.Grid{W: g.W, H: g.H, Size: n, X: g.X, Y: g.Y}, n >= 1 && n <= 65536)
		takes(t, api.Grid{W: g.W, H: g.H, Size: g.Size, X: n, Y: g.Y}, isAt)
		takes(t, api.Grid{W: g.W, H: g.H, Size: g.Size, X: g.X, Y: n}, isAt)
	}
	takes(t, api.Grid{}, false)
}

// TestOfTiles: tiles are blocked, each told once or more; what isn't a tile is refused, wherever it stands.
func TestOfTiles(t *testing.T) {
	for _, c := range []struct {
		list, want []int
		err        error
	}{
		{nil, nil, nil},
		{[]int{}, nil, nil},
		{[]int{0}, []int{0}, nil},
		{[]int{5}, []int{5}, nil},
		{[]int{4, 1, 3}, []int{1, 3, 4}, nil},
		{[]int{2, 2}, []int{2}, nil},
		{[]int{3, 0, 3, 0, 3}, []int{0, 3}, nil},
		{[]int{5, 4, 3, 2, 1, 0}, []int{0, 1, 2, 3, 4, 5}, nil},
		{[]int{6}, nil, api.ErrRange},
		{[]int{-1}, nil, api.ErrRange},
		{[]int{0, 6}, nil, api.ErrRange},
		{[]int{6, 0}, nil, api.ErrRange},
		{[]int{2, 2, -1, 2}, nil, api.ErrRange},
		{[]int{math.MinInt}, nil, api.ErrRange},
		{[]int{1, math.MaxInt}, nil, api.ErrRange},
	} {
		g, err := steps.Of(grid(3, 2), c.list...)
		if err != c.err || (g == nil) != (err != nil) {
			t.Fatalf("Of(%v): %v, %v; asked is %v", c.list, g, err, c.err)
		}
		if g != nil && !slices.Equal(g.Blocked(), c.want) {
			t.Fatalf("Of(%v): blocked %v", c.list, g.Blocked())
		}
	}
	long := slices.Repeat([]int{3, 0, 5}, 3000)
	if g, err := steps.Of(grid(3, 2), long...); err != nil || !slices.Equal(g.Blocked(), []int{0, 3, 5}) {
		t.Fatalf("Of a long list: %v", err)
	}
	if g, err := steps.Of(grid(3, 2), append(long, 6)...); err != api.ErrRange || g != nil {
		t.Fatalf("Of a long list with a wrong one: %v, %v", g, err)
	}
}

// drawing is which tiles of a drawn grid are blocked.
func drawing(rows ...string) (w, h int, list []int) {
	for t, c := range strings.Join(rows, "") {
		if c == '#' {
			list = append(list, t)
		}
	}
	return len(rows[0]), len(rows), list
}

// TestDirections: all eight steps from the middle of a grid, each at its cost.
func TestDirections(t *testing.T) {
	g, m := groundOf(t, 3, 3)
	all := []steps.Step{{0, 5, 10}, {1, 8, 14}, {2, 7, 10}, {3, 6, 14}, {4, 3, 10}, {5, 0, 14}, {6, 1, 10}, {7, 2, 14}}
	for dir, want := range all {
		if got, ok := g.Go(4, dir); got != want || !ok {
			t.Fatalf("Go(4, %d): %v, %v; asked is %v", dir, got, ok, want)
		}
	}
	if got := g.Around(4); !slices.Equal(got, all) {
		t.Fatalf("Around(4): %v", got)
	}
	same(t, g, m)
	names := []int{api.East, api.SouthEast, api.South, api.SouthWest, api.West, api.NorthWest, api.North, api.NorthEast}
	for i, to := range []int{5, 8, 7, 6, 3, 0, 1, 2} {
		if s, ok := g.Go(4, names[i]); !ok || s.To != to || s.Dir != names[i] {
			t.Fatalf("Go(4, %d): %v, %v; asked is to %d", names[i], s, ok, to)
		}
	}
}

// TestAroundByHand: the steps from one tile of drawn grids, written out as the tiles that they go to.
func TestAroundByHand(t *testing.T) {
	for _, c := range []struct {
		rows []string
		from int
		to   []int
	}{
		{[]string{"."}, 0, nil},
		{[]string{"#"}, 0, nil},
		{[]string{".."}, 0, []int{1}},
		{[]string{".."}, 1, []int{0}},
		{[]string{".", "."}, 0, []int{1}},
		{[]string{".", "."}, 1, []int{0}},
		{[]string{"..", ".."}, 0, []int{1, 3, 2}},
		{[]string{"..", ".."}, 3, []int{2, 0, 1}},
		// Of the two beside a diagonal step one that is blocked is enough.
		{[]string{".#", ".."}, 0, []int{2}},
		{[]string{"..", "#."}, 0, []int{1}},
		{[]string{".#", "#."}, 0, nil},
		{[]string{"..", ".#"}, 0, []int{1, 2}},
		{[]string{".#", ".."}, 3, []int{2}},
		{[]string{"..", "#."}, 3, []int{1}},
		{[]string{"#.", ".."}, 1, []int{3}},
		{[]string{"..", ".#"}, 1, []int{0}},
		{[]string{"..", ".#"}, 2, []int{0}},
		{[]string{"#.", ".."}, 2, []int{3}},
		// Nothing goes from a tile that is blocked.
		{[]string{"...", ".#.", "..."}, 4, nil},
		{[]string{".#.", "...", "..."}, 4, []int{5, 8, 7, 6, 3}},
		{[]string{"...", "..#", "..."}, 4, []int{7, 6, 3, 0, 1}},
		{[]string{"...", "...", ".#."}, 4, []int{5, 3, 0, 1, 2}},
		{[]string{"...", "#..", "..."}, 4, []int{5, 8, 7, 1, 2}},
		{[]string{"#.#", "...", "#.#"}, 4, []int{5, 7, 3, 1}},
		{[]string{".#.", "#.#", ".#."}, 4, nil},
		{[]string{"..#", "...", "..."}, 4, []int{5, 8, 7, 6, 3, 0, 1}},
		// The last tile of a row isn't beside the first one of the next.
		{[]string{"...", "...", "..."}, 5, []int{8, 7, 4, 1, 2}},
		{[]string{"...", "...", "..."}, 3, []int{4, 7, 6, 0, 1}},
		{[]string{"...", "...", "..."}, 2, []int{5, 4, 1}},
		{[]string{"...", "...", "..."}, 6, []int{7, 3, 4}},
		{[]string{".....", "....."}, 4, []int{9, 8, 3}},
		{[]string{".....", "....."}, 5, []int{6, 0, 1}},
	} {
		w, h, list := drawing(c.rows...)
		g, m := groundOf(t, w, h, list...)
		var got []int
		for _, s := range g.Around(c.from) {
			got = append(got, s.To)
		}
		if !slices.Equal(got, c.to) {
			t.Fatalf("%v: Around(%d): to %v; asked is %v", c.rows, c.from, got, c.to)
		}
		same(t, g, m)
	}
}

// TestCostByHand: walks on drawn grids, and what is no walk; of several errors the first one.
func TestCostByHand(t *testing.T) {
	w, h, list := drawing(
		"....",
		".#..",
		"...#",
	)
	g, m := groundOf(t, w, h, list...)
	for _, c := range []struct {
		walk []int
		want int
		err  error
	}{
		{[]int{0}, 0, nil},
		{[]int{10}, 0, nil},
		{[]int{0, 1}, 10, nil},
		{[]int{1, 0}, 10, nil},
		{[]int{0, 4}, 10, nil},
		{[]int{2, 7}, 14, nil},
		{[]int{7, 2}, 14, nil},
		{[]int{3, 6}, 14, nil},
		{[]int{6, 3}, 14, nil},
		{[]int{0, 4, 8, 9, 10, 6, 3}, 64, nil},
		// A walk may come to a tile again, and go back.
		{[]int{0, 1, 0, 1, 0}, 40, nil},
		{[]int{2, 7, 3, 2, 6, 7, 2, 7}, 82, nil},
		{nil, 0, api.ErrNone},
		{[]int{}, 0, api.ErrNone},
		{[]int{-1}, 0, api.ErrRange},
		{[]int{12}, 0, api.ErrRange},
		{[]int{0, 1, 12}, 0, api.ErrRange},
		{[]int{3, 4, 12}, 0, api.ErrRange},
		{[]int{5, 12}, 0, api.ErrRange}, // ahead of ErrBlocked, wherever it stands
		{[]int{5, 0, 5, -1, 5}, 0, api.ErrRange},
		{[]int{math.MaxInt, 0}, 0, api.ErrRange},
		{[]int{5}, 0, api.ErrBlocked},
		{[]int{11}, 0, api.ErrBlocked},
		{[]int{0, 1, 5}, 0, api.ErrBlocked},
		{[]int{5, 1, 0}, 0, api.ErrBlocked},
		{[]int{0, 2, 5}, 0, api.ErrBlocked}, // ahead of ErrPath
		{[]int{0, 0}, 0, api.ErrPath},       // to stay is no step
		{[]int{0, 2}, 0, api.ErrPath},
		{[]int{0, 8}, 0, api.ErrPath},
		{[]int{3, 4}, 0, api.ErrPath}, // the end of a row and the beginning of the next
		{[]int{4, 3}, 0, api.ErrPath},
		{[]int{7, 8}, 0, api.ErrPath},
		{[]int{3, 0}, 0, api.ErrPath}, // the ends of one row
		{[]int{1, 4}, 0, api.ErrPath}, // past a corner that is blocked
		{[]int{4, 1}, 0, api.ErrPath},
		{[]int{1, 6}, 0, api.ErrPath},
		{[]int{6, 1}, 0, api.ErrPath},
		{[]int{4, 9}, 0, api.ErrPath},
		{[]int{9, 4}, 0, api.ErrPath},
		{[]int{9, 6}, 0, api.ErrPath},
		{[]int{6, 9}, 0, api.ErrPath},
		{[]int{7, 10}, 0, api.ErrPath},
		{[]int{10, 7}, 0, api.ErrPath},
		{[]int{0, 1, 2, 3, 3}, 0, api.ErrPath},
		{[]int{0, 2, 3}, 0, api.ErrPath},
	} {
		if got, err := g.Cost(c.walk); got != c.want || err != c.err {
			t.Fatalf("Cost(%v): %d, %v; asked is %d, %v", c.walk, got, err, c.want, c.err)
		}
		sameCost(t, g, m, c.walk)
	}
}

// TestGuessByHand: whether tiles are free doesn't matter.
func TestGuessByHand(t *testing.T) {
	for _, blocked := range [][]int{nil, {0}, {19}, {1, 5, 6}, {0, 1, 2, 3, 4, 5, 6, 7, 8, 9, 10, 11, 12, 13, 14, 15, 16, 17, 18, 19}} {
		g, m := groundOf(t, 5, 4, blocked...)
		for _, c := range []struct {
			a, b, want int
			err        error
		}{
			{0, 0, 0, nil},
			{19, 19, 0, nil},
			{0, 1, 10, nil},
			{0, 5, 10, nil},
			{0, 6, 14, nil},
			{1, 5, 14, nil},
			{0, 4, 40, nil},
			{0, 15, 30, nil},
			{0, 19, 52, nil},
			{4, 15, 52, nil},
			{4, 5, 44, nil},  // four columns and a row, though the numbers are one apart
			{2, 16, 34, nil}, // a column and three rows
			{-1, 0, 0, api.ErrRange},
			{0, -1, 0, api.ErrRange},
			{20, 0, 0, api.ErrRange},
			{0, 20, 0, api.ErrRange},
			{20, 20, 0, api.ErrRange},
			{-1, -1, 0, api.ErrRange},
			{math.MinInt, math.MaxInt, 0, api.ErrRange},
		} {
			for _, ends := range [][2]int{{c.a, c.b}, {c.b, c.a}} {
				if got, err := g.Guess(ends[0], ends[1]); got != c.want || err != c.err {
					t.Fatalf("blocked %v: Guess(%d, %d): %d, %v; asked is %d, %v", blocked, ends[0], ends[1], got, err, c.want, c.err)
				}
			}
		}
		for n := -2; n < 22; n++ {
			sameGuesses(t, g, m, n)
		}
	}
}

// TestSet: a tile is free or not, however often that is said; what isn't a tile is refused, and changes nothing.
func TestSet(t *testing.T) {
	g, m := groundOf(t, 3, 2, 4)
	for _, c := range []struct {
		tile int
		free bool
		want []int
	}{
		{0, true, []int{4}}, {4, false, []int{4}}, {5, false, []int{4, 5}}, {0, false, []int{0, 4, 5}}, {5, false, []int{0, 4, 5}},
		{4, true, []int{0, 5}}, {4, true, []int{0, 5}}, {6, true, []int{0, 5}}, {6, false, []int{0, 5}}, {-1, true, []int{0, 5}}, {-1, false, []int{0, 5}},
		{5, true, []int{0}}, {0, true, nil},
	} {
		sets(t, g, m, c.tile, c.free)
		if got := g.Blocked(); !slices.Equal(got, c.want) {
			t.Fatalf("Set(%d, %v): blocked %v; asked is %v", c.tile, c.free, got, c.want)
		}
		same(t, g, m)
	}
}

// TestEdges: every edge number at every place of a call; none panics, nor is taken for another one.
func TestEdges(t *testing.T) {
	for _, s := range []int{1, 2, 6, 32} {
		g, m := groundOf(t, s, s, s*s/2+s/2)
		for _, n := range edgeNumbers() {
			sameTile(t, g, m, n)
			sameCost(t, g, m, []int{n})
			for _, other := range edgeNumbers() {
				want, wantOk := m.step(n, other)
				if got, ok := g.Go(n, other); got != want || ok != wantOk {
					t.Fatalf("%d by %d: Go(%d, %d): %v, %v; asked is %v, %v", s, s, n, other, got, ok, want, wantOk)
				}
				sameCost(t, g, m, []int{n, other})
				sameCost(t, g, m, []int{0, n, other})
				_, err := g.Guess(n, other)
				if both := m.has(n) && m.has(other); both != (err == nil) || !both && err != api.ErrRange {
					t.Fatalf("%d by %d: Guess(%d, %d): %v", s, s, n, other, err)
				}
			}
			for _, free := range []bool{false, true} {
				sets(t, g, m, n, free)
				sameTile(t, g, m, n)
			}
			if got, want := g.Blocked(), m.blocks; !slices.Equal(got, want) {
				t.Fatalf("%d by %d, after Set(%d): blocked %v; asked is %v", s, s, n, got, want)
			}
		}
	}
}
