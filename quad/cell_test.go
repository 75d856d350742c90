package quad_test

import (
	"math"
	"testing"

	"paddock/api"
	"paddock/quad"
)

// Each call has just the signature of its chapter.
var (
	_ func(api.Box) (quad.Cell, error)                                      = quad.Of
	_ func(quad.Cell) (quad.Cell, bool)                                     = quad.Cell.Up
	_ func(quad.Cell) (api.Box, error)                                      = quad.Cell.Loose
	_ func() *quad.Tree                                                     = quad.New
	_ func(*quad.Tree, api.Handle, api.Box) error                           = (*quad.Tree).Put
	_ func(*quad.Tree, api.Handle) error                                    = (*quad.Tree).Drop
	_ func(*quad.Tree, api.Handle) (api.Box, bool)                          = (*quad.Tree).Box
	_ func(*quad.Tree, api.Box) ([]api.Handle, error)                       = (*quad.Tree).Meeting
	_ func(*quad.Tree) []api.Handle                                         = (*quad.Tree).Handles
	_ func(*quad.Tree) []quad.Cell                                          = (*quad.Tree).Nodes
	_ func(*quad.Tree) int                                                  = (*quad.Tree).Len
	_ func(*quad.Tree, func(quad.Cell) bool, func(h api.Handle, b api.Box)) = (*quad.Tree).Walk
	_ struct{ Depth, X, Y int }                                             = quad.Cell{}
)

func TestLimits(t *testing.T) {
	if api.MaxSpan != reach || api.MaxDepth != deep || api.MaxCoord+api.MaxExtent != edge {
		t.Fatal("the limits aren't the document's")
	}
}

// checkOf holds Of against the model.
func checkOf(t *testing.T, b api.Box) {
	t.Helper()
	want, wantErr := quad.Cell{}, errorOf(b)
	if wantErr == nil {
		want = cellOf(b)
	}
	if got, err := quad.Of(b); got != want || err != wantErr {
		t.Fatalf("Of(%v): %v, %v; asked is %v, %v", b, got, err, want, wantErr)
	}
}

// TestOfByHand writes cells down, and which error comes first.
func TestOfByHand(t *testing.T) {
	for _, c := range []struct {
		box  api.Box
		want quad.Cell
		err  error
	}{
		{box(0, 0, 10, 10), cell(8, 128, 128), nil},
		{box(0, 0, 0, 0), cell(8, 128, 128), nil},
		{box(-1, 0, 0, 0), cell(8, 127, 128), nil}, // the centre is rounded down
		{box(0, -1, 1, -1), cell(8, 128, 127), nil},
		{box(-2, 7, 1, 9), cell(8, 127, 128), nil},
		{box(-1, -1, 1, 1), cell(8, 128, 128), nil},
		{box(16384, 16383, 16384, 16383), cell(8, 129, 128), nil},
		{box(-16384, -16385, -16384, -16385), cell(8, 127, 126), nil},
		{box(0, 0, 16384, 16384), cell(8, 128, 128), nil},
		{box(0, 0, 16385, 0), cell(7, 64, 64), nil},
		{box(0, 0, 0, 16385), cell(7, 64, 64), nil},
		{box(0, 0, 32768, 1), cell(7, 64, 64), nil},
		{box(0, 0, 32769, 1), cell(6, 32, 32), nil},
		{box(-5, -6, 65531, 7), cell(6, 32, 32), nil},
		{box(-5, -6, 65532, 7), cell(5, 16, 16), nil},
		{box(0, 0, 2097152, 2097152), cell(1, 1, 1), nil},
		{box(-1, 0, 2097152, 0), cell(0, 0, 0), nil},
		{box(-2097152, 0, 2097152, 0), cell(0, 0, 0), nil},
		{box(-2097152, -2097152, 2097152, 2097152), cell(0, 0, 0), nil},
		{box(-2097152, -2097152, -2097152, -2097152), cell(8, 0, 0), nil},
		{box(2097152, 2097152, 2097152, 2097152), cell(8, 255, 255), nil}, // beyond the square's end
		{box(2097151, -2097152, 2097152, 2097152), cell(0, 0, 0), nil},
		{box(2097152, -2097152, 2097152, 0), cell(1, 1, 0), nil}, // the centre is beyond the end by X
		{box(-2097152, 2097152, 0, 2097152), cell(1, 0, 1), nil}, // by Y
		{box(-2097153, 0, 0, 0), quad.Cell{}, api.ErrRange},
		{box(0, -2097153, 0, 0), quad.Cell{}, api.ErrRange},
		{box(0, 0, 2097153, 0), quad.Cell{}, api.ErrRange},
		{box(0, 0, 0, 2097153), quad.Cell{}, api.ErrRange},
		{box(4194304, 4194304, 4194304, 4194304), quad.Cell{}, api.ErrRange},
		{box(4194305, 4194304, 4194305, 4194304), quad.Cell{}, api.ErrForm},
		{box(-4194305, 0, 0, 0), quad.Cell{}, api.ErrForm},
		{box(1, 0, 0, 0), quad.Cell{}, api.ErrForm},
		{box(0, 1, 0, 0), quad.Cell{}, api.ErrForm},
		{box(2097154, 0, 2097153, 0), quad.Cell{}, api.ErrForm}, // for both causes
	} {
		if got, err := quad.Of(c.box); got != c.want || err != c.err {
			t.Errorf("Of(%v): %v, %v; asked is %v, %v", c.box, got, err, c.want, c.err)
		}
		checkOf(t, c.box)
	}
}

// TestOfAtEdges tries all edge numbers at all four places.
func TestOfAtEdges(t *testing.T) {
	all := edgeNumbers()
	for _, x0 := range all {
		for _, y0 := range all {
			for _, x1 := range all {
				for _, y1 := range all {
					checkOf(t, box(x0, y0, x1, y1))
				}
			}
		}
	}
}

// TestOfWidths tries boxes as wide, or as high, as each depth's cells, and nearly so, wherever they lie.
func TestOfWidths(t *testing.T) {
	for _, side := range sides() {
		for wide := side - 2; wide <= side+2; wide++ {
			for low := -edge; low <= edge; low += 16384*37 + 11 {
				checkOf(t, box(low, 5, low+wide, 5))
				checkOf(t, box(5, low, 5, low+wide))
				checkOf(t, box(low, low, low+wide, low+16384))
				checkOf(t, box(-low-wide, low, -low, low+wide))
			}
		}
	}
}

// TestOfCentres tries boxes whose centres lie on both sides of each line between cells, by X and by Y.
func TestOfCentres(t *testing.T) {
	for depth, side := range sides() {
		wide := side/2 + 1 // the least that has no smaller cells
		if depth == deep {
			wide = 0
		}
		for line := -edge; line <= edge; line += side {
			for _, n := range []int{line - 1, line, line + 1} {
				for _, more := range []int{0, 1} {
					low := n - wide/2
					checkOf(t, box(low, -3, low+wide+more, -3))
					checkOf(t, box(7, low, 7, low+wide+more))
				}
			}
		}
	}
}

// eachCell goes through all cells.
func eachCell(do func(c quad.Cell)) {
	for depth := range deep + 1 {
		for x := range 1 << depth {
			for y := range 1 << depth {
				do(cell(depth, x, y))
			}
		}
	}
}

// TestAllCells goes through all cells: the one above has its lowest and highest coordinates in it, its loose box goes half a side beyond it, and the points at its corners have it as their cell, if there is none below.
func TestAllCells(t *testing.T) {
	eachCell(func(c quad.Cell) {
		side := sides()[c.Depth]
		x, y := -edge+c.X*side, -edge+c.Y*side
		want := box(x-side/2, y-side/2, x+side+side/2, y+side+side/2)
		if got, err := c.Loose(); got != want || err != nil {
			t.Fatalf("Loose of %v: %v, %v; asked is %v", c, got, err, want)
		}
		up, has := c.Up()
		if has != (c.Depth > 0) || !has && up != (quad.Cell{}) {
			t.Fatalf("Up of %v: %v, %v", c, up, has)
		}
		if has && up != cell(c.Depth-1, columnOf(x, c.Depth-1), columnOf(y+side-1, c.Depth-1)) {
			t.Fatalf("Up of %v: %v", c, up)
		}
		if c.Depth == deep {
			for _, p := range []api.Point{{X: x, Y: y}, {X: x + side - 1, Y: y}, {X: x, Y: y + side - 1}, {X: x + side - 1, Y: y + side - 1}} {
				if got, err := quad.Of(box(p.X, p.Y, p.X, p.Y)); got != c || err != nil {
					t.Fatalf("Of the point %v: %v, %v; asked is %v", p, got, err, c)
				}
			}
		}
	})
}

func TestCellsByHand(t *testing.T) {
	for _, c := range []struct {
		cell, up quad.Cell
		has      bool
		loose    api.Box
	}{
		{cell(0, 0, 0), quad.Cell{}, false, box(-4194304, -4194304, 4194304, 4194304)},
		{cell(1, 0, 1), cell(0, 0, 0), true, box(-3145728, -1048576, 1048576, 3145728)},
		{cell(2, 3, 1), cell(1, 1, 0), true, box(524288, -1572864, 2621440, 524288)},
		{cell(8, 128, 128), cell(7, 64, 64), true, box(-8192, -8192, 24576, 24576)},
		{cell(8, 255, 0), cell(7, 127, 0), true, box(2072576, -2105344, 2105344, -2072576)},
	} {
		if up, has := c.cell.Up(); up != c.up || has != c.has {
			t.Errorf("Up of %v: %v, %v; asked is %v, %v", c.cell, up, has, c.up, c.has)
		}
		if loose, err := c.cell.Loose(); loose != c.loose || err != nil {
			t.Errorf("Loose of %v: %v, %v; asked is %v", c.cell, loose, err, c.loose)
		}
	}
}

// TestNoCells tries numbers on both sides of all that cells have, at each place.
func TestNoCells(t *testing.T) {
	numbers := []int{
		math.MinInt, math.MinInt + 1, -1 << 32, -256, -65, -64, -63, -9, -8, -2, -1, 0, 1, 2, 3, 4, 7, 8, 9, 10,
		127, 128, 255, 256, 257, 511, 512, 1 << 32, 1<<32 + 1, 62, 63, 64, 65, 1 << 62, math.MaxInt - 1, math.MaxInt,
	}
	columns := []int{1, 2, 4, 8, 16, 32, 64, 128, 256}
	for _, depth := range numbers {
		for _, x := range numbers {
			for _, y := range numbers {
				is := depth >= 0 && depth <= deep && min(x, y) >= 0 && max(x, y) < columns[depth]
				c := cell(depth, x, y)
				if up, has := c.Up(); has != (is && depth > 0) || !has && up != (quad.Cell{}) {
					t.Fatalf("Up of %v: %v, %v", c, up, has)
				}
				loose, err := c.Loose()
				if is && err != nil || !is && (err != api.ErrRange || loose != api.Box{}) {
					t.Fatalf("Loose of %v: %v, %v", c, loose, err)
				}
			}
		}
	}
}

// checkLoose tells whether a box lies in its cell's loose box, and in those of all cells above.
func checkLoose(t *testing.T, b api.Box) {
	t.Helper()
	c, err := quad.Of(b)
	if err != nil {
		t.Fatalf("Of(%v): %v", b, err)
	}
	for has := true; has; c, has = c.Up() {
		l, err := c.Loose()
		if err != nil || b.X0 < l.X0 || b.Y0 < l.Y0 || b.X1 > l.X1 || b.Y1 > l.Y1 {
			t.Fatalf("%v doesn't lie in the loose box %v, %v of %v", b, l, err, c)
		}
	}
}

// TestBoxInLooseBox (P12.2) tries boxes that go beyond their cells as far as boxes go, and drawn ones.
func TestBoxInLooseBox(t *testing.T) {
	for _, side := range sides() {
		for line := -edge; line <= edge; line += side {
			for _, wide := range []int{0, 1, side - 1, side} {
				for n := line - 1; n <= line+1; n++ {
					if low := n - wide/2; low >= -edge && low+wide <= edge {
						checkLoose(t, box(low, 0, low+wide, 0))
						checkLoose(t, box(0, low, 0, low+wide))
						checkLoose(t, box(low, low, low+wide, low+wide))
					}
				}
			}
		}
	}
	draw := drawer(1)
	for range 20000 {
		b := drawnBox(draw)
		checkLoose(t, b)
		checkOf(t, b)
	}
}
