package region_test

import (
	"math"
	"slices"
	"testing"

	"paddock/api"
	"paddock/region"
)

// The limits are written out here, so that the tests don't hang on the constants that the package itself uses.
const (
	side  = 32      // the most tiles of a side
	size  = 65536   // the greatest tile
	coord = 1048576 // how far a grid's corner may lie from 0
	none  = -1      // no label
)

// grid is one of tiles of a size, whose first corner is anywhere: labels don't hang on either.
func grid(w, h int) api.Grid { return api.Grid{W: w, H: h, Size: 10, X: -3, Y: 7} }

// model is which tiles are blocked, in any order; all else is reckoned anew whenever it is asked.
type model struct {
	w, h   int
	blocks []int
}

func (m *model) has(t int) bool { return t >= 0 && t < m.w*m.h }

func (m *model) blocked(t int) bool { return slices.Contains(m.blocks, t) }

func (m *model) free(t int) bool { return m.has(t) && !m.blocked(t) }

// isNext tells whether two tiles are next to each other.
func (m *model) isNext(a, b int) bool {
	column, row := a%m.w-b%m.w, a/m.w-b/m.w
	return row == 0 && (column == 1 || column == -1) || column == 0 && (row == 1 || row == -1)
}

// labels are what Labels is asked to answer: each free tile begins with its own number, and takes those of its neighbours for so long as one is less.
func (m *model) labels() []int {
	list := make([]int, m.w*m.h)
	for t := range list {
		list[t] = none
		if m.free(t) {
			list[t] = t
		}
	}
	for changed := true; changed; {
		changed = false
		for t := range list {
			for _, n := range []int{t - m.w, t - 1, t + 1, t + m.w} {
				if m.free(t) && m.free(n) && m.isNext(t, n) && list[n] < list[t] {
					list[t], changed = list[n], true
				}
			}
		}
	}
	return list
}

// isTwice tells whether a tile is told twice.
func isTwice(list []int) bool {
	for i, t := range list {
		if slices.Contains(list[:i], t) {
			return true
		}
	}
	return false
}

// block is what Block is asked to do and to answer.
func (m *model) block(list ...int) error {
	for _, t := range list {
		if !m.has(t) {
			return api.ErrRange
		}
	}
	if slices.ContainsFunc(list, m.blocked) || isTwice(list) {
		return api.ErrBlocked
	}
	m.blocks = append(slices.Clone(m.blocks), list...)
	return nil
}

// release is what Free is asked to do and to answer.
func (m *model) release(list ...int) error {
	for _, t := range list {
		if !m.has(t) {
			return api.ErrRange
		}
	}
	if slices.ContainsFunc(list, m.free) || isTwice(list) {
		return api.ErrState
	}
	m.blocks = slices.DeleteFunc(slices.Clone(m.blocks), func(t int) bool { return slices.Contains(list, t) })
	return nil
}

// clone is a model apart.
func (m *model) clone() *model { return &model{m.w, m.h, slices.Clone(m.blocks)} }

// same holds all that is asked of regions against the model.
func same(t *testing.T, r *region.Regions, m *model) {
	t.Helper()
	labels := m.labels()
	if got := r.Labels(); !slices.Equal(got, labels) {
		t.Fatalf("%d by %d, blocked %v: Labels: %v; asked is %v", m.w, m.h, m.blocks, got, labels)
	}
	kinds := slices.Compact(slices.Sorted(slices.Values(labels)))
	if len(kinds) > 0 && kinds[0] == none {
		kinds = kinds[1:]
	}
	if got := r.Count(); got != len(kinds) {
		t.Fatalf("%d by %d, blocked %v: Count: %d; asked is %d", m.w, m.h, m.blocks, got, len(kinds))
	}
	for n := -2; n < len(labels)+2; n++ {
		sameTile(t, r, labels, n)
	}
}

// sameTile holds all that is asked of one tile against the labels.
func sameTile(t *testing.T, r *region.Regions, labels []int, n int) {
	t.Helper()
	has, label, wantErr := n >= 0 && n < len(labels), 0, api.ErrRange
	if has {
		label, wantErr = labels[n], nil
	}
	if got, err := r.Label(n); got != label || err != wantErr {
		t.Fatalf("labels %v: Label(%d): %d, %v; asked is %d, %v", labels, n, got, err, label, wantErr)
	}
	together := 0
	for other := -2; other < len(labels)+2; other++ {
		want := has && other >= 0 && other < len(labels) && label != none && labels[other] == label
		if want {
			together++
		}
		if got := r.Together(n, other); got != want {
			t.Fatalf("labels %v: Together(%d, %d): %v; asked is %v", labels, n, other, got, want)
		}
	}
	if got := r.Size(n); got != together {
		t.Fatalf("labels %v: Size(%d): %d; asked is %d", labels, n, got, together)
	}
}

// blocks blocks tiles of both.
func blocks(t *testing.T, r *region.Regions, m *model, list ...int) {
	t.Helper()
	was := slices.Clone(m.blocks)
	want := m.block(list...)
	if err := r.Block(list...); err != want {
		t.Fatalf("%d by %d, blocked %v: Block(%v): %v; asked is %v", m.w, m.h, was, list, err, want)
	}
}

// frees frees tiles of both.
func frees(t *testing.T, r *region.Regions, m *model, list ...int) {
	t.Helper()
	was := slices.Clone(m.blocks)
	want := m.release(list...)
	if err := r.Free(list...); err != want {
		t.Fatalf("%d by %d, blocked %v: Free(%v): %v; asked is %v", m.w, m.h, was, list, err, want)
	}
}

// regionsOf is a grid on which these tiles are blocked, and its model.
func regionsOf(t *testing.T, w, h int, list ...int) (*region.Regions, *model) {
	t.Helper()
	r, err := region.New(grid(w, h))
	if err != nil || r == nil {
		t.Fatalf("New of %d by %d: %v, %v", w, h, r, err)
	}
	m := &model{w: w, h: h}
	blocks(t, r, m, list...)
	return r, m
}

// drawer answers numbers by a fixed rule, from 0 on and below n.
func drawer(seed uint64) func(n int) int {
	rule := seed*2 + 5
	return func(n int) int {
		rule = rule*6364136223846793005 + 1442695040888963407
		return int((rule >> 33) % uint64(n))
	}
}

// shuffled is a list in a drawn order.
func shuffled(draw func(n int) int, list []int) []int {
	list = slices.Clone(list)
	for i := range list {
		k := i + draw(len(list)-i)
		list[i], list[k] = list[k], list[i]
	}
	return list
}

// drawnTiles are some of a grid's tiles, each once: about one of so many.
func drawnTiles(draw func(n int) int, w, h, one int) []int {
	var list []int
	for t := range w * h {
		if draw(one) == 0 {
			list = append(list, t)
		}
	}
	return shuffled(draw, list)
}

// edgeNumbers rise; they lie on both sides of the ends of all ranges and of all numbers, and many are the same, cut to fewer bits.
func edgeNumbers() []int {
	return []int{
		math.MinInt, math.MinInt + 1, -1 << 32, 5 - 1<<32, -1025, -33, -2, -1, 0, 1, 2, side - 1, side, side + 1,
		1022, 1023, 1024, 1025, 65535, 65536, 1 << 32, 1<<32 + 1, 1<<32 + 5, math.MaxInt - 1, math.MaxInt,
	}
}
