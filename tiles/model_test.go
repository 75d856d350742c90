package tiles_test

import (
	"math"
	"slices"
	"testing"

	"paddock/api"
	"paddock/tiles"
)

// The limits are written out here, so that the tests don't hang on the constants that the package itself uses.
const (
	side  = 32      // the most tiles of a side
	size  = 65536   // the greatest tile
	coord = 1048576 // how far a grid's corner may lie from 0
	reach = 4194304 // how far a box's side may
	none  = -1      // no tile
)

func grid(w, h, size, x, y int) api.Grid { return api.Grid{W: w, H: h, Size: size, X: x, Y: y} }

func point(x, y int) api.Point { return api.Point{X: x, Y: y} }

func box(x0, y0, x1, y1 int) api.Box { return api.Box{X0: x0, Y0: y0, X1: x1, Y1: y1} }

// isRight tells whether a grid is right.
func isRight(g api.Grid) bool {
	for _, n := range []int{g.W, g.H} {
		if n < 1 || n > side {
			return false
		}
	}
	for _, n := range []int{g.X, g.Y} {
		if n < -coord || n > coord {
			return false
		}
	}
	return g.Size >= 1 && g.Size <= size
}

// areas are the tiles of a grid that is right, by number: of each the box of its lowest and highest points.
func areas(g api.Grid) []api.Box {
	var list []api.Box
	y := g.Y
	for range g.H {
		x := g.X
		for range g.W {
			list = append(list, box(x, y, x+g.Size-1, y+g.Size-1))
			x += g.Size
		}
		y += g.Size
	}
	return list
}

// has tells whether a box has a point.
func has(b api.Box, p api.Point) bool {
	return b.X0 <= p.X && p.X <= b.X1 && b.Y0 <= p.Y && p.Y <= b.Y1
}

// isBox tells whether a box is right.
func isBox(b api.Box) bool {
	for _, n := range []int{b.X0, b.Y0, b.X1, b.Y1} {
		if n < -reach || n > reach {
			return false
		}
	}
	return b.X0 <= b.X1 && b.Y0 <= b.Y1
}

// at is what At is asked to answer.
func at(g api.Grid, p api.Point) (int, bool) {
	if !isRight(g) {
		return none, false
	}
	t := slices.IndexFunc(areas(g), func(a api.Box) bool { return has(a, p) })
	return t, t >= 0
}

// place is what Place is asked to answer.
func place(g api.Grid, t int) (api.Point, error) {
	if !isRight(g) {
		return api.Point{}, api.ErrForm
	}
	all := areas(g)
	if t < 0 || t >= len(all) {
		return api.Point{}, api.ErrRange
	}
	return point(all[t].X0, all[t].Y0), nil
}

// under is what Under is asked to answer.
func under(g api.Grid, b api.Box) []int {
	if !isRight(g) || !isBox(b) {
		return nil
	}
	var list []int
	for t, a := range areas(g) {
		// The point of the tile that comes nearest to the box's lowest one lies in the box, if one does.
		if has(b, point(max(a.X0, b.X0), max(a.Y0, b.Y0))) && has(a, point(max(a.X0, b.X0), max(a.Y0, b.Y0))) {
			list = append(list, t)
		}
	}
	return list
}

// stroke is a box that was put on, or taken off.
type stroke struct {
	box api.Box
	by  int // 1 or -1
}

// model writes down what was done, and reckons each count anew from all of it.
type model struct {
	grid api.Grid
	done []stroke
}

// count is what Count is asked to answer.
func (m *model) count(t int) int {
	n := 0
	for _, s := range m.done {
		if slices.Contains(under(m.grid, s.box), t) {
			n += s.by
		}
	}
	return n
}

// those are the tiles of a list whose count is so.
func (m *model) those(list []int, is func(n int) bool) []int {
	return slices.DeleteFunc(slices.Clone(list), func(t int) bool { return !is(m.count(t)) })
}

func isNull(n int) bool { return n == 0 }

func isAbove(n int) bool { return n > 0 }

// put is what Put is asked to answer.
func (m *model) put(b api.Box) []int {
	free := m.those(under(m.grid, b), isNull)
	m.done = append(m.done, stroke{b, 1})
	return free
}

// drop is what Drop is asked to answer.
func (m *model) drop(b api.Box) ([]int, error) {
	list := under(m.grid, b)
	if len(m.those(list, isNull)) > 0 {
		return nil, api.ErrNone
	}
	m.done = append(m.done, stroke{b, -1})
	return m.those(list, isNull), nil
}

// blocked is what Blocked is asked to answer.
func (m *model) blocked() []int {
	var all []int
	for t := range m.grid.W * m.grid.H {
		all = append(all, t)
	}
	return m.those(all, isAbove)
}

// clone is a model apart.
func (m *model) clone() *model {
	return &model{m.grid, slices.Clone(m.done)}
}

// same holds all that is asked of a map against the model.
func same(t *testing.T, x *tiles.Map, m *model) {
	t.Helper()
	if got := x.Grid(); got != m.grid {
		t.Fatalf("Grid: %v; asked is %v", got, m.grid)
	}
	if got, want := x.Blocked(), m.blocked(); !slices.Equal(got, want) {
		t.Fatalf("after %v: Blocked: %v; asked is %v", m.done, got, want)
	}
	for n := -2; n < m.grid.W*m.grid.H+2; n++ {
		sameTile(t, x, m, n)
	}
}

// sameTile holds all that is asked of one tile against the model.
func sameTile(t *testing.T, x *tiles.Map, m *model, n int) {
	t.Helper()
	has, count := n >= 0 && n < m.grid.W*m.grid.H, m.count(n)
	if got := x.Has(n); got != has {
		t.Fatalf("Has(%d): %v; asked is %v", n, got, has)
	}
	if got := x.Count(n); got != count {
		t.Fatalf("after %v: Count(%d): %d; asked is %d", m.done, n, got, count)
	}
	if got, want := x.Free(n), has && count == 0; got != want {
		t.Fatalf("after %v: Free(%d): %v; asked is %v", m.done, n, got, want)
	}
}

// puts puts a box on both.
func puts(t *testing.T, x *tiles.Map, m *model, b api.Box) {
	t.Helper()
	if got, want := x.Put(b), m.put(b); !slices.Equal(got, want) {
		t.Fatalf("after %v: Put: %v; asked is %v", m.done, got, want)
	}
}

// drops takes a box off both.
func drops(t *testing.T, x *tiles.Map, m *model, b api.Box) {
	t.Helper()
	want, wantErr := m.drop(b)
	if got, err := x.Drop(b); err != wantErr || !slices.Equal(got, want) {
		t.Fatalf("after %v: Drop(%v): %v, %v; asked is %v, %v", m.done, b, got, err, want, wantErr)
	}
}

// mapOf is a map on which these boxes stand, and its model.
func mapOf(t *testing.T, g api.Grid, boxes ...api.Box) (*tiles.Map, *model) {
	t.Helper()
	x, err := tiles.New(g)
	if err != nil || x == nil {
		t.Fatalf("New(%v): %v, %v", g, x, err)
	}
	m := &model{grid: g}
	for _, b := range boxes {
		puts(t, x, m, b)
	}
	return x, m
}

// drawer answers numbers by a fixed rule, from 0 on and below n.
func drawer(seed uint64) func(n int) int {
	rule := seed*2 + 5
	return func(n int) int {
		rule = rule*6364136223846793005 + 1442695040888963407
		return int((rule >> 33) % uint64(n))
	}
}

// drawnGrid is one that is right, of at most so many tiles a side.
func drawnGrid(draw func(n int) int, most int) api.Grid {
	s := 1 + draw(1<<draw(17))
	return grid(1+draw(most), 1+draw(most), s, draw(2*coord+1)-coord, draw(2*coord+1)-coord)
}

// drawnBox is one at a grid: each side lies at a line between tiles or just beside one, or anywhere.
func drawnBox(draw func(n int) int, g api.Grid) api.Box {
	x0, x1 := drawnSide(draw, g.X, g.Size, g.W), drawnSide(draw, g.X, g.Size, g.W)
	y0, y1 := drawnSide(draw, g.Y, g.Size, g.H), drawnSide(draw, g.Y, g.Size, g.H)
	return box(min(x0, x1), min(y0, y1), max(x0, x1), max(y0, y1))
}

// drawnSide is a coordinate on or near the tiles of a line.
func drawnSide(draw func(n int) int, from, size, n int) int {
	line := from + (draw(n+3)-1)*size
	if draw(3) == 0 {
		return line + draw(size)
	}
	return line + draw(3) - 1
}

// edgeNumbers rise; they lie on both sides of the ends of all ranges and of all numbers, and many are the same, cut to fewer bits.
func edgeNumbers() []int {
	return []int{
		math.MinInt, math.MinInt + 1, -1 << 32, 5 - 1<<32, -reach - 1, -reach, -coord - 1, -coord, -1,
		0, 1, 2, side - 1, side, side + 1, 1023, 1024, 1025, size - 1, size, size + 1, coord - 1, coord, coord + 1,
		reach - 1, reach, reach + 1, 1 << 32, 1<<32 + 1, 1<<32 + 5, math.MaxInt - 1, math.MaxInt,
	}
}

// edgeGrids are right; they are at the ends of their ranges.
func edgeGrids() []api.Grid {
	return []api.Grid{
		grid(1, 1, 1, 0, 0), grid(1, 1, 1, -coord, coord), grid(1, 1, 1, coord, -coord), grid(1, 1, size, -coord, -coord),
		grid(side, 1, 1, coord, 0), grid(1, side, 1, 0, coord), grid(side, side, 1, -16, -16), grid(side, side, size, coord, coord),
		grid(side, side, size, -coord, -coord), grid(side, 1, size, coord, -coord), grid(1, side, size, -coord, coord), grid(4, 3, 10, 0, 0),
		grid(3, 5, 7, -11, 4), grid(2, 2, 3, -3, -3), grid(5, 2, 1, -2, -1), grid(7, side, 65535, -1, 1),
	}
}

// TestModel holds the model's own answers against all points of small grids, one by one.
func TestModel(t *testing.T) {
	for _, g := range []api.Grid{grid(1, 1, 1, 0, 0), grid(2, 3, 2, -1, 1), grid(3, 1, 3, -4, -2)} {
		for _, b := range smallBoxes(g) {
			var want []int
			for x := b.X0; x <= b.X1; x++ {
				for y := b.Y0; y <= b.Y1; y++ {
					if n, ok := at(g, point(x, y)); ok {
						want = append(want, n)
					}
				}
			}
			slices.Sort(want)
			if got := under(g, b); !slices.Equal(got, slices.Compact(want)) {
				t.Fatalf("the model's under(%v, %v): %v; asked is %v", g, b, got, want)
			}
		}
	}
	if got := areas(grid(2, 2, 10, -5, 0)); !slices.Equal(got, []api.Box{box(-5, 0, 4, 9), box(5, 0, 14, 9), box(-5, 10, 4, 19), box(5, 10, 14, 19)}) {
		t.Fatalf("the model's areas: %v", got)
	}
}

// smallBoxes are all that are right and go at most two points beyond a small grid.
func smallBoxes(g api.Grid) []api.Box {
	var list []api.Box
	right, low := g.X+g.W*g.Size+1, g.Y+g.H*g.Size+1
	for x0 := g.X - 2; x0 <= right; x0++ {
		for x1 := x0; x1 <= right; x1++ {
			for y0 := g.Y - 2; y0 <= low; y0++ {
				for y1 := y0; y1 <= low; y1++ {
					list = append(list, box(x0, y0, x1, y1))
				}
			}
		}
	}
	return list
}
