package steps_test

import (
	"math"
	"slices"
	"testing"

	"paddock/api"
	"paddock/steps"
)

// The limits and costs are written out here, so that the tests don't hang on the constants that the package itself uses.
const (
	side     = 32      // the most tiles of a side
	size     = 65536   // the greatest tile
	coord    = 1048576 // how far a grid's corner may lie from 0
	none     = -1      // no direction
	straight = 10
	diagonal = 14
)

// grid is one of tiles of a size, whose first corner is anywhere: steps don't hang on either.
func grid(w, h int) api.Grid { return api.Grid{W: w, H: h, Size: 10, X: -3, Y: 7} }

// model is which tiles are blocked, in any order; all else is reckoned anew whenever it is asked.
type model struct {
	w, h   int
	blocks []int
}

func (m *model) has(t int) bool { return t >= 0 && t < m.w*m.h }

func (m *model) blocked(t int) bool { return slices.Contains(m.blocks, t) }

func (m *model) free(t int) bool { return m.has(t) && !m.blocked(t) }

// at is the tile of a column and a row.
func (m *model) at(column, row int) int { return row*m.w + column }

// way is the direction from one tile of the grid to another one that touches it.
func (m *model) way(from, to int) int {
	columns, rows := to%m.w-from%m.w, to/m.w-from/m.w
	if columns < -1 || columns > 1 || rows < -1 || rows > 1 {
		return none
	}
	return [3][3]int{
		{5, 6, 7},
		{4, none, 0},
		{3, 2, 1},
	}[rows+1][columns+1]
}

// step is what Go is asked to answer: it is looked for among all tiles of the grid.
func (m *model) step(from, dir int) (steps.Step, bool) {
	for to := range m.w * m.h {
		if dir == none || !m.free(from) || !m.free(to) || m.way(from, to) != dir {
			continue
		}
		if from%m.w == to%m.w || from/m.w == to/m.w {
			return steps.Step{Dir: dir, To: to, Cost: straight}, true
		}
		// The other two of the four tiles that the diagonal step lies among are those beside it.
		if m.free(m.at(from%m.w, to/m.w)) && m.free(m.at(to%m.w, from/m.w)) {
			return steps.Step{Dir: dir, To: to, Cost: diagonal}, true
		}
	}
	return steps.Step{}, false
}

// around is what Around is asked to answer.
func (m *model) around(from int) []steps.Step {
	var list []steps.Step
	for dir := 0; dir <= 7; dir++ {
		if s, ok := m.step(from, dir); ok {
			list = append(list, s)
		}
	}
	return list
}

// cost is what Cost is asked to answer.
func (m *model) cost(walk []int) (int, error) {
	if len(walk) == 0 {
		return 0, api.ErrNone
	}
	for _, t := range walk {
		if !m.has(t) {
			return 0, api.ErrRange
		}
	}
	for _, t := range walk {
		if m.blocked(t) {
			return 0, api.ErrBlocked
		}
	}
	cost := 0
	for i := 1; i < len(walk); i++ {
		s, ok := m.step(walk[i-1], m.way(walk[i-1], walk[i]))
		if !ok {
			return 0, api.ErrPath
		}
		cost += s.Cost
	}
	return cost, nil
}

// costs are, of all tiles, what the least walks from one cost, and below 0 where there is none.
func (m *model) costs(from int) []int {
	list := slices.Repeat([]int{-1}, m.w*m.h)
	if !m.free(from) {
		return list
	}
	list[from] = 0
	for waiting := []int{from}; len(waiting) > 0; waiting = waiting[1:] {
		for _, s := range m.around(waiting[0]) {
			if cost := list[waiting[0]] + s.Cost; list[s.To] < 0 || cost < list[s.To] {
				list[s.To] = cost
				waiting = append(waiting, s.To)
			}
		}
	}
	return list
}

// guesses are what Guess is asked to answer from one tile to all: what walks would cost, if all tiles were free.
func (m *model) guesses(from int) []int {
	return (&model{w: m.w, h: m.h}).costs(from)
}

// set is what Set is asked to do and to answer.
func (m *model) set(t int, free bool) error {
	if !m.has(t) {
		return api.ErrRange
	}
	m.blocks = slices.DeleteFunc(slices.Clone(m.blocks), func(other int) bool { return other == t })
	if !free {
		m.blocks = append(m.blocks, t)
	}
	return nil
}

// clone is a model apart.
func (m *model) clone() *model { return &model{m.w, m.h, slices.Clone(m.blocks)} }

// same holds all that is asked of a ground, but Cost and Guess, against the model.
func same(t *testing.T, g *steps.Ground, m *model) {
	t.Helper()
	if got := g.Len(); got != m.w*m.h {
		t.Fatalf("%d by %d: Len: %d", m.w, m.h, got)
	}
	if got, want := g.Blocked(), slices.Sorted(slices.Values(m.blocks)); !slices.Equal(got, want) {
		t.Fatalf("%d by %d: Blocked: %v; asked is %v", m.w, m.h, got, want)
	}
	for n := -2; n < m.w*m.h+2; n++ {
		sameTile(t, g, m, n)
	}
}

// sameTile holds all that is asked of one tile against the model.
func sameTile(t *testing.T, g *steps.Ground, m *model, n int) {
	t.Helper()
	if got, want := g.Free(n), m.free(n); got != want {
		t.Fatalf("%d by %d, blocked %v: Free(%d): %v", m.w, m.h, m.blocks, n, got)
	}
	for dir := -2; dir < 11; dir++ {
		want, wantOk := m.step(n, dir)
		if got, ok := g.Go(n, dir); got != want || ok != wantOk {
			t.Fatalf("%d by %d, blocked %v: Go(%d, %d): %v, %v; asked is %v, %v", m.w, m.h, m.blocks, n, dir, got, ok, want, wantOk)
		}
	}
	if got, want := g.Around(n), m.around(n); !slices.Equal(got, want) {
		t.Fatalf("%d by %d, blocked %v: Around(%d): %v; asked is %v", m.w, m.h, m.blocks, n, got, want)
	}
}

// sameCost holds Cost against the model.
func sameCost(t *testing.T, g *steps.Ground, m *model, walk []int) {
	t.Helper()
	want, wantErr := m.cost(walk)
	if got, err := g.Cost(walk); got != want || err != wantErr {
		t.Fatalf("%d by %d, blocked %v: Cost(%v): %d, %v; asked is %d, %v", m.w, m.h, m.blocks, walk, got, err, want, wantErr)
	}
}

// sameGuesses holds Guess from one tile to all numbers around the grid's own against the model.
func sameGuesses(t *testing.T, g *steps.Ground, m *model, from int) {
	t.Helper()
	var list []int
	if m.has(from) {
		list = m.guesses(from)
	}
	for to := -2; to < m.w*m.h+2; to++ {
		want, wantErr := 0, api.ErrRange
		if m.has(from) && m.has(to) {
			want, wantErr = list[to], nil
		}
		if got, err := g.Guess(from, to); got != want || err != wantErr {
			t.Fatalf("%d by %d, blocked %v: Guess(%d, %d): %d, %v; asked is %d, %v", m.w, m.h, m.blocks, from, to, got, err, want, wantErr)
		}
	}
}

// sets frees or blocks a tile of both.
func sets(t *testing.T, g *steps.Ground, m *model, n int, free bool) {
	t.Helper()
	was := slices.Clone(m.blocks)
	want := m.set(n, free)
	if err := g.Set(n, free); err != want {
		t.Fatalf("%d by %d, blocked %v: Set(%d, %v): %v; asked is %v", m.w, m.h, was, n, free, err, want)
	}
}

// groundOf is a ground on which these tiles are blocked, and its model.
func groundOf(t *testing.T, w, h int, list ...int) (*steps.Ground, *model) {
	t.Helper()
	g, err := steps.Of(grid(w, h), list...)
	if err != nil || g == nil {
		t.Fatalf("Of %d by %d, %v: %v, %v", w, h, list, g, err)
	}
	return g, &model{w, h, slices.Compact(slices.Sorted(slices.Values(list)))}
}

// setOf are the tiles whose bit a number has.
func setOf(bits, n int) []int {
	var list []int
	for t := range n {
		if bits>>t&1 == 1 {
			list = append(list, t)
		}
	}
	return list
}

// drawer answers numbers by a fixed rule, from 0 on and below n.
func drawer(seed uint64) func(n int) int {
	rule := seed*2 + 5
	return func(n int) int {
		rule = rule*6364136223846793005 + 1442695040888963407
		return int((rule >> 33) % uint64(n))
	}
}

// drawnTiles are some of a grid's tiles, in any order, some of them more than once: about one of so many.
func drawnTiles(draw func(n int) int, w, h, one int) []int {
	var list []int
	for range w * h / one {
		list = append(list, draw(w*h))
	}
	return list
}

// edgeNumbers rise; they lie on both sides of the ends of all ranges and of all numbers, and many are the same, cut to fewer bits.
func edgeNumbers() []int {
	return []int{
		math.MinInt, math.MinInt + 1, -1 << 32, 5 - 1<<32, -1025, -33, -9, -8, -2, -1, 0, 1, 2, 7, 8, 9, side - 1, side, side + 1,
		1022, 1023, 1024, 1025, 65535, 65536, 1 << 32, 1<<32 + 1, 1<<32 + 5, math.MaxInt - 1, math.MaxInt,
	}
}
