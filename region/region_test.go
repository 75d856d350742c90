package region_test

import (
	"math"
	"slices"
	"strings"
	"testing"

	"paddock/api"
	"paddock/region"
)

// TestExample is the document's.
func TestExample(t *testing.T) {
	r, err := region.New(api.Grid{W: 3, H: 1, Size: 1})
	if err != nil {
		t.Fatal(err)
	}
	if err := r.Block(1); err != nil || !slices.Equal(r.Labels(), []int{0, -1, 2}) {
		t.Fatalf("Block(1): %v, labels %v", err, r.Labels())
	}
	if err := r.Free(1); err != nil || !slices.Equal(r.Labels(), []int{0, 0, 0}) {
		t.Fatalf("Free(1): %v, labels %v", err, r.Labels())
	}
}

// TestNew: a grid is taken if it is right, else refused; all its tiles are free.
func TestNew(t *testing.T) {
	right := []api.Grid{
		{W: 1, H: 1, Size: 1}, {W: side, H: side, Size: size, X: coord, Y: coord}, {W: side, H: 1, Size: 1, X: -coord, Y: -coord},
		{W: 1, H: side, Size: size, X: coord, Y: -coord}, {W: 5, H: 4, Size: 3, X: -1, Y: 2},
	}
	for _, g := range right {
		r, err := region.New(g)
		if err != nil || r == nil {
			t.Fatalf("New(%v): %v, %v", g, r, err)
		}
		if got := r.Labels(); !slices.Equal(got, make([]int, g.W*g.H)) || r.Count() != 1 || r.Size(g.W*g.H-1) != g.W*g.H {
			t.Fatalf("New(%v): labels %v", g, got)
		}
	}
	for _, n := range edgeNumbers() {
		g := api.Grid{W: 2, H: 3, Size: 4, X: 5, Y: 6}
		isSide := n >= 1 && n <= 32
		isAt := n >= -1048576 && n <= 1048576
		takes(t, api.Grid{W: n, H: g.H, Size: g.Size, X: g.X, Y: g.Y}, isSide)
		takes(t, api.Grid{W: g.W, H: n, Size: g.Size, X: g.X, Y: g.Y}, isSide)
		takes(t, api.Grid{W: g.W, H: g.H, Size: n, X: g.X, Y: g.Y}, n >= 1 && n <= 65536)
		takes(t, api.Grid{W: g.W, H: g.H, Size: g.Size, X: n, Y: g.Y}, isAt)
		takes(t, api.Grid{W: g.W, H: g.H, Size: g.Size, X: g.X, Y: n}, isAt)
	}
	for _, n := range []int{-coord - 1, -coord, coord, coord + 1} {
		takes(t, api.Grid{W: 1, H: 1, Size: 1, X: n}, n == -coord || n == coord)
		takes(t, api.Grid{W: 1, H: 1, Size: 1, Y: n}, n == -coord || n == coord)
	}
	takes(t, api.Grid{}, false)
}

// takes tells whether New takes a grid.
func takes(t *testing.T, g api.Grid, want bool) {
	t.Helper()
	r, err := region.New(g)
	if want && (err != nil || r == nil) || !want && (err != api.ErrForm || r != nil) {
		t.Fatalf("New(%v): %v, %v; it is right: %v", g, r, err, want)
	}
}

// drawing is which tiles of a drawn grid are blocked.
func drawing(rows ...string) (w, h int, list []int) {
	for t, c := range strings.Join(rows, "") {
		if c == '#' {
			list = append(list, t)
		}
	}
	return len(rows[0]), len(rows), list
}

// TestByHand: labels of drawn grids, written out.
func TestByHand(t *testing.T) {
	for _, c := range []struct {
		rows   []string
		labels []int
	}{
		{[]string{"."}, []int{0}},
		{[]string{"#"}, []int{none}},
		{[]string{".."}, []int{0, 0}},
		{[]string{"#."}, []int{none, 1}},
		{[]string{".", "#", "."}, []int{0, none, 2}},
		{[]string{".#", "#."}, []int{0, none, none, 3}},
		{[]string{"#.", ".#"}, []int{none, 1, 2, none}},
		{[]string{"#.", ".."}, []int{none, 1, 1, 1}},
		// The last tile of a row isn't next to the first one of the next.
		{[]string{"##.", ".##"}, []int{none, none, 2, 3, none, none}},
		{[]string{"...", ".#.", "..."}, []int{0, 0, 0, 0, none, 0, 0, 0, 0}},
		{[]string{".#.", "#.#", ".#."}, []int{0, none, 2, none, 4, none, 6, none, 8}},
		// A walk from the first row's end leads to the tile whose number is least only by way of greater ones.
		{[]string{".#.", ".#.", "..."}, []int{0, none, 0, 0, none, 0, 0, 0, 0}},
		{[]string{"##.", ".#.", "..."}, []int{none, none, 2, 2, none, 2, 2, 2, 2}},
		{[]string{".....", "####.", ".....", ".####", "....."}, []int{0, 0, 0, 0, 0, none, none, none, none, 0, 0, 0, 0, 0, 0, 0, none, none, none, none, 0, 0, 0, 0, 0}},
		{[]string{"#####", "#...#", "#.#.#", "#...#", "#####"}, []int{none, none, none, none, none, none, 6, 6, 6, none, none, 6, none, 6, none, none, 6, 6, 6, none, none, none, none, none, none}},
	} {
		w, h, list := drawing(c.rows...)
		r, m := regionsOf(t, w, h, list...)
		if got := r.Labels(); !slices.Equal(got, c.labels) {
			t.Fatalf("%v: labels %v; asked is %v", c.rows, got, c.labels)
		}
		same(t, r, m)
	}
}

// TestAnswersByHand: the other calls' answers at one drawn grid.
func TestAnswersByHand(t *testing.T) {
	w, h, list := drawing(
		"..#.",
		"##.#",
		".#..",
	)
	r, m := regionsOf(t, w, h, list...)
	same(t, r, m)
	if got := r.Labels(); !slices.Equal(got, []int{0, 0, none, 3, none, none, 6, none, 8, none, 6, 6}) {
		t.Fatalf("Labels: %v", got)
	}
	if got := r.Count(); got != 4 {
		t.Fatalf("Count: %d", got)
	}
	for n, want := range []int{2, 2, 0, 1, 0, 0, 3, 0, 1, 0, 3, 3} {
		if got := r.Size(n); got != want {
			t.Fatalf("Size(%d): %d; asked is %d", n, got, want)
		}
	}
	for _, c := range []struct {
		a, b int
		want bool
	}{{0, 1, true}, {1, 0, true}, {0, 0, true}, {0, 3, false}, {2, 2, false}, {2, 4, false}, {0, 2, false}, {2, 0, false}, {6, 11, true}, {8, 6, false}, {12, 12, false}, {-1, -1, false}, {-1, 2, false}, {2, 12, false}} {
		if got := r.Together(c.a, c.b); got != c.want {
			t.Fatalf("Together(%d, %d): %v; asked is %v", c.a, c.b, got, c.want)
		}
	}
}

// TestNothingFree: a grid all of whose tiles are blocked has no label.
func TestNothingFree(t *testing.T) {
	r, m := regionsOf(t, 3, 2, 5, 3, 0, 1, 4, 2)
	same(t, r, m)
	if got := r.Count(); got != 0 {
		t.Fatalf("Count: %d", got)
	}
	frees(t, r, m, 4)
	same(t, r, m)
	if got := r.Count(); got != 1 {
		t.Fatalf("Count: %d", got)
	}
}

// TestErrors: what each call refuses, and with which error, of several the first one.
func TestErrors(t *testing.T) {
	const (
		block = iota
		free
	)
	for _, c := range []struct {
		call int
		list []int
		want error
	}{
		{block, nil, nil}, {block, []int{}, nil}, {free, nil, nil}, {free, []int{}, nil},
		{block, []int{0}, nil}, {block, []int{5, 0, 3}, nil}, {free, []int{1}, nil}, {free, []int{4, 1}, nil},
		{block, []int{-1}, api.ErrRange}, {block, []int{6}, api.ErrRange}, {free, []int{-1}, api.ErrRange}, {free, []int{6}, api.ErrRange},
		{block, []int{0, 6}, api.ErrRange}, {free, []int{1, -1}, api.ErrRange},
		{block, []int{1}, api.ErrBlocked}, {block, []int{0, 4}, api.ErrBlocked}, {block, []int{0, 0}, api.ErrBlocked}, {block, []int{0, 3, 0}, api.ErrBlocked},
		{block, []int{1, 1}, api.ErrBlocked}, {free, []int{0}, api.ErrState}, {free, []int{1, 0}, api.ErrState}, {free, []int{1, 1}, api.ErrState},
		{free, []int{1, 4, 1}, api.ErrState}, {free, []int{0, 0}, api.ErrState},
		// ErrRange comes first, wherever in the list.
		{block, []int{1, 6}, api.ErrRange}, {block, []int{0, 0, 6}, api.ErrRange}, {block, []int{6, 1, 6}, api.ErrRange}, {block, []int{-1, -1}, api.ErrRange},
		{free, []int{0, 6}, api.ErrRange}, {free, []int{1, 1, -1}, api.ErrRange}, {free, []int{6, 6}, api.ErrRange},
	} {
		r, m := regionsOf(t, 3, 2, 1, 4)
		was, call, of := r.Labels(), r.Block, m.block
		if c.call == free {
			call, of = r.Free, m.release
		}
		if err := call(c.list...); err != c.want {
			t.Fatalf("call %d of %v: %v; asked is %v", c.call, c.list, err, c.want)
		}
		if err := of(c.list...); err != c.want {
			t.Fatalf("the model's call %d of %v: %v; asked is %v", c.call, c.list, err, c.want)
		}
		if c.want != nil && !slices.Equal(r.Labels(), was) {
			t.Fatalf("call %d of %v changed labels to %v", c.call, c.list, r.Labels())
		}
		same(t, r, m)
	}
}

// TestEdges: every edge number at every place of a call; those that are tiles are taken, others refused, without a panic.
func TestEdges(t *testing.T) {
	for _, side := range []int{1, 2, 6, 32} {
		r, m := regionsOf(t, side, side)
		labels := m.labels()
		for _, n := range edgeNumbers() {
			sameTile(t, r, labels, n)
			for _, other := range edgeNumbers() {
				both := n >= 0 && n < side*side && other >= 0 && other < side*side
				if got := r.Together(n, other); got != both {
					t.Fatalf("Together(%d, %d): %v", n, other, got)
				}
				blocks(t, r, m, n, other)
				frees(t, r, m, other, n)
			}
			blocks(t, r, m, n)
			frees(t, r, m, 0, n)
			frees(t, r, m, n)
			if len(m.blocks) > 0 || !slices.Equal(r.Labels(), labels) {
				t.Fatalf("after number %d labels are %v", n, r.Labels())
			}
		}
	}
}

// TestLongLists: lists of more numbers than there are tiles are refused, whatever is in them.
func TestLongLists(t *testing.T) {
	r, m := regionsOf(t, 4, 4, 3)
	var long []int
	for i := range 5000 {
		long = append(long, i%16)
	}
	blocks(t, r, m, long...)
	frees(t, r, m, long...)
	same(t, r, m)
	long[4000] = math.MaxInt
	blocks(t, r, m, long...)
	frees(t, r, m, long...)
	same(t, r, m)
}
