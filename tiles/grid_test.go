package tiles_test

import (
	"math"
	"slices"
	"testing"

	"paddock/api"
	"paddock/tiles"
)

// sameAt holds At against the model.
func sameAt(t *testing.T, g api.Grid, p api.Point) {
	t.Helper()
	want, wantOk := at(g, p)
	if got, ok := tiles.At(g, p); got != want || ok != wantOk {
		t.Fatalf("At(%v, %v): %d, %v; asked is %d, %v", g, p, got, ok, want, wantOk)
	}
}

// samePlace holds Place against the model.
func samePlace(t *testing.T, g api.Grid, n int) {
	t.Helper()
	want, wantErr := place(g, n)
	if got, err := tiles.Place(g, n); got != want || err != wantErr {
		t.Fatalf("Place(%v, %d): %v, %v; asked is %v, %v", g, n, got, err, want, wantErr)
	}
}

// sameUnder holds Under against the model.
func sameUnder(t *testing.T, g api.Grid, b api.Box) {
	t.Helper()
	if got, want := tiles.Under(g, b), under(g, b); !slices.Equal(got, want) {
		t.Fatalf("Under(%v, %v): %v; asked is %v", g, b, got, want)
	}
}

// wrongGrids each have one number that is beyond its range, by little or by much.
func wrongGrids() []api.Grid {
	var list []api.Grid
	for _, n := range edgeNumbers() {
		list = append(list, grid(n, 3, 10, 1, 2), grid(4, n, 10, 1, 2), grid(4, 3, n, 1, 2), grid(4, 3, 10, n, 2), grid(4, 3, 10, 1, n))
	}
	return slices.DeleteFunc(list, isRight)
}

func TestRight(t *testing.T) {
	for _, g := range edgeGrids() {
		if !tiles.Right(g) {
			t.Errorf("Right(%v): false", g)
		}
	}
	for _, g := range wrongGrids() {
		if tiles.Right(g) {
			t.Errorf("Right(%v): true", g)
		}
	}
	for _, c := range []struct {
		grid api.Grid
		want bool
	}{
		{api.Grid{}, false},
		{grid(1, 1, 1, -1048576, -1048576), true},
		{grid(32, 32, 65536, 1048576, 1048576), true},
		{grid(0, 1, 1, 0, 0), false},
		{grid(33, 1, 1, 0, 0), false},
		{grid(1, 0, 1, 0, 0), false},
		{grid(1, 33, 1, 0, 0), false},
		{grid(1, 1, 0, 0, 0), false},
		{grid(1, 1, 65537, 0, 0), false},
		{grid(1, 1, 1, -1048577, 0), false},
		{grid(1, 1, 1, 1048577, 0), false},
		{grid(1, 1, 1, 0, -1048577), false},
		{grid(1, 1, 1, 0, 1048577), false},
		{grid(-4, -4, 10, 0, 0), false},
	} {
		if got := tiles.Right(c.grid); got != c.want {
			t.Errorf("Right(%v): %v", c.grid, got)
		}
	}
}

// TestRightOfAllNumbers: each number alone makes a grid wrong, whatever the others are.
func TestRightOfAllNumbers(t *testing.T) {
	for _, a := range edgeNumbers() {
		for _, b := range edgeNumbers() {
			for _, g := range []api.Grid{grid(a, b, 10, 0, 0), grid(a, 3, b, 0, 0), grid(a, 3, 10, b, 0), grid(a, 3, 10, 0, b), grid(4, a, b, 0, 0), grid(4, a, 10, b, 0), grid(4, a, 10, 0, b), grid(4, 3, a, b, 0), grid(4, 3, a, 0, b), grid(4, 3, 10, a, b), grid(a, a, a, b, b)} {
				if got, want := tiles.Right(g), isRight(g); got != want {
					t.Fatalf("Right(%v): %v", g, got)
				}
			}
		}
	}
}

func TestAtByHand(t *testing.T) {
	g := grid(4, 3, 10, 0, 0)
	for _, c := range []struct {
		grid api.Grid
		at   api.Point
		want int
		has  bool
	}{
		{g, point(25, 9), 2, true},
		{g, point(0, 0), 0, true},
		{g, point(9, 9), 0, true},
		{g, point(10, 9), 1, true},
		{g, point(9, 10), 4, true},
		{g, point(39, 29), 11, true},
		{g, point(40, 29), -1, false},
		{g, point(39, 30), -1, false},
		{g, point(-1, 0), -1, false}, // not rounded towards 0
		{g, point(0, -1), -1, false},
		{g, point(-9, 5), -1, false},
		{g, point(45, 5), -1, false}, // not tile 4 of the next row
		{g, point(-5, 15), -1, false},
		{g, point(math.MinInt, 0), -1, false},
		{g, point(0, math.MaxInt), -1, false},
		{grid(4, 3, 10, -25, -7), point(-1, 2), 2, true},
		{grid(4, 3, 10, -25, -7), point(-16, 2), 0, true},
		{grid(4, 3, 10, -25, -7), point(-15, 3), 5, true},
		{grid(4, 3, 10, -25, -7), point(-26, 2), -1, false},
		{grid(32, 32, 65536, 1048576, 1048576), point(3145727, 3145727), 1023, true},
		{grid(32, 32, 65536, 1048576, 1048576), point(3145728, 3145727), -1, false},
		{grid(0, 3, 10, 0, 0), point(0, 0), -1, false},
		{api.Grid{}, point(0, 0), -1, false},
	} {
		if got, has := tiles.At(c.grid, c.at); got != c.want || has != c.has {
			t.Errorf("At(%v, %v): %d, %v; asked is %d, %v", c.grid, c.at, got, has, c.want, c.has)
		}
	}
}

// TestAtCorners: the corners of each tile are its own, and those just beyond are another's, or none's.
func TestAtCorners(t *testing.T) {
	for _, g := range edgeGrids() {
		for n, a := range areas(g) {
			for _, x := range []int{a.X0, (a.X0 + a.X1) / 2, a.X1} {
				for _, y := range []int{a.Y0, (a.Y0 + a.Y1) / 2, a.Y1} {
					if got, ok := tiles.At(g, point(x, y)); got != n || !ok {
						t.Fatalf("At(%v, %d %d): %d, %v; asked is %d", g, x, y, got, ok, n)
					}
				}
			}
			if n < 2*side || n%side == side-1 {
				for _, p := range []api.Point{point(a.X0-1, a.Y0), point(a.X1+1, a.Y1), point(a.X0, a.Y0-1), point(a.X1, a.Y1+1)} {
					sameAt(t, g, p)
				}
			}
		}
	}
}

// TestAtOfAllNumbers: no number panics, nor is taken for another one.
func TestAtOfAllNumbers(t *testing.T) {
	grids := append(edgeGrids(), wrongGrids()...)
	for _, x := range edgeNumbers() {
		for _, y := range edgeNumbers() {
			for _, g := range grids {
				sameAt(t, g, point(x, y))
			}
		}
	}
}

func TestPlaceByHand(t *testing.T) {
	g := grid(4, 3, 10, -5, 7)
	for _, c := range []struct {
		grid api.Grid
		tile int
		want api.Point
		err  error
	}{
		{g, 0, point(-5, 7), nil},
		{g, 3, point(25, 7), nil},
		{g, 4, point(-5, 17), nil},
		{g, 6, point(15, 17), nil},
		{g, 11, point(25, 27), nil},
		{g, 12, api.Point{}, api.ErrRange},
		{g, -1, api.Point{}, api.ErrRange},
		{g, math.MinInt, api.Point{}, api.ErrRange},
		{g, math.MaxInt, api.Point{}, api.ErrRange},
		{grid(32, 32, 65536, 1048576, 1048576), 1023, point(3080192, 3080192), nil},
		{grid(32, 32, 65536, 1048576, 1048576), 1024, api.Point{}, api.ErrRange},
		{grid(4, 33, 10, 0, 0), 0, api.Point{}, api.ErrForm},
		{grid(4, 33, 10, 0, 0), -1, api.Point{}, api.ErrForm}, // ahead of the tile
		{grid(0, 0, 0, 0, 0), 0, api.Point{}, api.ErrForm},
	} {
		if got, err := tiles.Place(c.grid, c.tile); got != c.want || err != c.err {
			t.Errorf("Place(%v, %d): %v, %v; asked is %v, %v", c.grid, c.tile, got, err, c.want, c.err)
		}
	}
}

// TestPlaceOfAllTiles: each tile has its place, which is its own by At; there are no others.
func TestPlaceOfAllTiles(t *testing.T) {
	for _, g := range edgeGrids() {
		for n := -2; n < g.W*g.H+2; n++ {
			samePlace(t, g, n)
			if p, err := tiles.Place(g, n); err == nil {
				if got, ok := tiles.At(g, p); got != n || !ok {
					t.Fatalf("At(%v, %v): %d, %v; asked is %d", g, p, got, ok, n)
				}
			}
		}
	}
	for _, g := range append(edgeGrids(), wrongGrids()...) {
		for _, n := range edgeNumbers() {
			samePlace(t, g, n)
		}
	}
}

func TestUnderByHand(t *testing.T) {
	g := grid(4, 3, 10, 0, 0)
	for _, c := range []struct {
		grid api.Grid
		box  api.Box
		want []int
	}{
		{g, box(5, 5, 10, 10), []int{0, 1, 4, 5}},
		{g, box(5, 5, 9, 9), []int{0}},
		{g, box(10, 10, 19, 19), []int{5}},
		{g, box(9, 9, 20, 9), []int{0, 1, 2}},
		{g, box(9, 9, 9, 20), []int{0, 4, 8}},
		{g, box(10, 10, 10, 10), []int{5}},
		{g, box(-100, -100, 100, 100), []int{0, 1, 2, 3, 4, 5, 6, 7, 8, 9, 10, 11}},
		{g, box(-4194304, -4194304, 4194304, 4194304), []int{0, 1, 2, 3, 4, 5, 6, 7, 8, 9, 10, 11}},
		{g, box(-10, 12, 3, 17), []int{4}},
		{g, box(38, 28, 90, 90), []int{11}},
		{g, box(40, 0, 50, 29), nil},
		{g, box(0, 30, 39, 40), nil},
		{g, box(-9, 0, -1, 29), nil},
		{g, box(0, -9, 39, -1), nil},
		{g, box(39, 29, 40, 30), []int{11}},
		{g, box(-1, -1, 0, 0), []int{0}},
		{g, box(10, 10, 9, 10), nil}, // the sides are the wrong way round
		{g, box(10, 10, 10, 9), nil},
		{g, box(0, 0, 4194305, 0), nil},
		{g, box(-4194305, 0, 0, 0), nil},
		{g, box(0, 0, 0, 4194305), nil},
		{g, box(0, -4194305, 0, 0), nil},
		{grid(4, 3, 10, -25, -7), box(-1, -1, 0, 3), []int{2, 6}},
		{grid(33, 3, 10, 0, 0), box(0, 0, 0, 0), nil},
		{grid(0, 3, 10, 0, 0), box(0, 0, 0, 0), nil},
		{grid(4, 3, 0, 0, 0), box(0, 0, 0, 0), nil},
	} {
		if got := tiles.Under(c.grid, c.box); !slices.Equal(got, c.want) {
			t.Errorf("Under(%v, %v): %v; asked is %v", c.grid, c.box, got, c.want)
		}
	}
}

// TestUnderSmall: all boxes at some small grids.
func TestUnderSmall(t *testing.T) {
	for _, g := range []api.Grid{grid(1, 1, 1, 0, 0), grid(3, 2, 1, -1, -1), grid(2, 3, 2, -1, 1), grid(3, 1, 3, -4, -2), grid(2, 2, 4, -3, 3)} {
		for _, b := range smallBoxes(g) {
			sameUnder(t, g, b)
		}
	}
}

// TestUnderOfAllNumbers: no number panics, nor is taken for another one.
func TestUnderOfAllNumbers(t *testing.T) {
	for _, a := range edgeNumbers() {
		for _, b := range edgeNumbers() {
			for _, g := range append(edgeGrids(), wrongGrids()...) {
				sameUnder(t, g, box(a, 0, b, 0))
				sameUnder(t, g, box(-1, a, 1, b))
			}
			sameUnder(t, grid(4, 3, 10, 0, 0), box(a, a, b, b))
			sameUnder(t, grid(4, 3, 10, 0, 0), box(a, b, b, a))
		}
	}
}

// TestUnderDrawn: boxes whose sides lie at the lines between tiles.
func TestUnderDrawn(t *testing.T) {
	draw := drawer(14)
	for range 20000 {
		g := drawnGrid(draw, side)
		b := drawnBox(draw, g)
		sameUnder(t, g, b)
		sameAt(t, g, point(b.X0, b.Y1))
		samePlace(t, g, draw(1030)-3)
	}
}
