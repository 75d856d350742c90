package region_test

import (
	"slices"
	"testing"

	"paddock/api"
	"paddock/region"
)

// setOf are the tiles whose bit a number has.
func setOf(bits, n int) []int {
	var list []int
	for t := range n {
		if bits>>t&1 == 1 {
			list = append(list, t)
		}
	}
	return list
}

// TestAllSmallGrids: every set of blocked tiles of small grids.
func TestAllSmallGrids(t *testing.T) {
	for _, s := range [][2]int{{1, 1}, {2, 1}, {1, 2}, {5, 1}, {1, 5}, {2, 2}, {3, 2}, {2, 3}, {3, 3}, {4, 2}} {
		for bits := range 1 << (s[0] * s[1]) {
			r, m := regionsOf(t, s[0], s[1], setOf(bits, s[0]*s[1])...)
			same(t, r, m)
		}
	}
}

// TestAllSetsOfTwelve: labels of every set of blocked tiles of grids of twelve tiles.
func TestAllSetsOfTwelve(t *testing.T) {
	for _, w := range []int{3, 4} {
		for bits := range 1 << 12 {
			r, m := regionsOf(t, w, 12/w, setOf(bits, 12)...)
			if got, want := r.Labels(), m.labels(); !slices.Equal(got, want) {
				t.Fatalf("%d wide, blocked %v: labels %v; asked is %v", w, m.blocks, got, want)
			}
		}
	}
}

// TestEveryOrder: all orders of few calls, on a grid of 2 by 2.
func TestEveryOrder(t *testing.T) {
	lists := [][]int{nil, {0}, {3}, {1, 2}, {0, 1, 2, 3}, {2, 2}, {4, 0}}
	var walk func(r *region.Regions, m *model, more int)
	walk = func(r *region.Regions, m *model, more int) {
		same(t, r, m)
		if more == 0 {
			return
		}
		for _, list := range lists {
			x, k := r.Clone(), m.clone()
			blocks(t, x, k, list...)
			walk(x, k, more-1)
			x, k = r.Clone(), m.clone()
			frees(t, x, k, list...)
			walk(x, k, more-1)
		}
	}
	r, m := regionsOf(t, 2, 2)
	walk(r, m, 4)
}

// TestDrawnOrders: long orders of calls, of which many are refused.
func TestDrawnOrders(t *testing.T) {
	draw := drawer(15)
	for range 40 {
		w, h := 1+draw(7), 1+draw(7)
		r, m := regionsOf(t, w, h)
		for range 60 {
			list := drawnTiles(draw, w, h, 1+draw(2*w*h))
			if draw(9) == 0 {
				list = append(list, draw(w*h+2)-1)
			}
			// Most lists are cut to those tiles that the call takes.
			if draw(2) == 0 {
				if draw(4) > 0 {
					list = slices.DeleteFunc(list, m.blocked)
				}
				blocks(t, r, m, list...)
			} else {
				if draw(4) > 0 {
					list = slices.DeleteFunc(list, m.free)
				}
				frees(t, r, m, list...)
			}
			if got, want := r.Labels(), m.labels(); !slices.Equal(got, want) {
				t.Fatalf("%d by %d, blocked %v: labels %v; asked is %v", w, h, m.blocks, got, want)
			}
		}
		same(t, r, m)
	}
}

// TestGreatGrids: grids at the limits, few tiles and many of them blocked.
func TestGreatGrids(t *testing.T) {
	draw := drawer(32)
	for _, s := range [][2]int{{32, 32}, {32, 1}, {1, 32}, {31, 32}, {32, 2}} {
		for _, one := range []int{100, 3, 2} {
			r, m := regionsOf(t, s[0], s[1], drawnTiles(draw, s[0], s[1], one)...)
			labels := m.labels()
			if got := r.Labels(); !slices.Equal(got, labels) {
				t.Fatalf("%v, blocked %v: labels %v; asked is %v", s, m.blocks, got, labels)
			}
			for range 50 {
				sameTile(t, r, labels, draw(s[0]*s[1]))
			}
		}
	}
}

// TestLongWalks: a way that goes over every other row, and turns at the ends, hangs together from end to end.
func TestLongWalks(t *testing.T) {
	var walls []int
	for row := 1; row < side; row += 2 {
		for column := range side {
			if gap := (side - 1) * (row / 2 % 2); column != side-1-gap {
				walls = append(walls, row*side+column)
			}
		}
	}
	r, m := regionsOf(t, side, side, walls...)
	if !r.Together(0, 30*32) {
		t.Fatalf("the way's ends don't hang together: %v", r.Labels())
	}
	if got, want := r.Labels(), m.labels(); !slices.Equal(got, want) || r.Count() != 1 {
		t.Fatalf("labels %v; asked is %v", got, want)
	}
	gap := 15*32 + slices.Index(r.Labels()[15*32:16*32], 0)
	blocks(t, r, m, gap)
	if r.Count() != 2 || r.Together(0, 30*32) || r.Size(0) != 32*8+7 {
		t.Fatalf("after the way was cut: %d labels, %d tiles from 0", r.Count(), r.Size(0))
	}
	frees(t, r, m, gap)
	if r.Count() != 1 {
		t.Fatalf("after it was joined: %d labels", r.Count())
	}
}

// TestNoHistory: two grids whose blocked tiles are the same answer the same, however it came.
func TestNoHistory(t *testing.T) {
	draw := drawer(7)
	for range 200 {
		w, h := 1+draw(6), 1+draw(6)
		list := drawnTiles(draw, w, h, 2)
		r, m := regionsOf(t, w, h, list...)
		x, k := regionsOf(t, w, h)
		// One by one, and with tiles that are blocked for a while.
		for _, n := range shuffled(draw, list) {
			others := slices.DeleteFunc(drawnTiles(draw, w, h, 3), func(t int) bool { return t == n || k.blocked(t) })
			blocks(t, x, k, others...)
			blocks(t, x, k, n)
			frees(t, x, k, shuffled(draw, others)...)
		}
		// All blocked, and the others freed.
		y, l := regionsOf(t, w, h, setOf(1<<(w*h)-1, w*h)...)
		for _, n := range shuffled(draw, setOf(1<<(w*h)-1, w*h)) {
			if !slices.Contains(list, n) {
				frees(t, y, l, n)
			}
		}
		same(t, x, m)
		same(t, y, m)
		same(t, r, m)
	}
}

// TestDocumentPromise: two free tiles have one label just if there is a walk between them, and it is the least tile of all these.
func TestDocumentPromise(t *testing.T) {
	draw := drawer(4)
	for range 30 {
		w, h := 1+draw(6), 1+draw(6)
		r, m := regionsOf(t, w, h, drawnTiles(draw, w, h, 3)...)
		for from := range w * h {
			reached := walkFrom(m, from)
			if got := r.Size(from); got != len(reached) {
				t.Fatalf("%d by %d, blocked %v: Size(%d): %d; reached are %v", w, h, m.blocks, from, got, reached)
			}
			want := none
			if len(reached) > 0 {
				want = slices.Min(reached)
			}
			if got, err := r.Label(from); got != want || err != nil {
				t.Fatalf("%d by %d, blocked %v: Label(%d): %d, %v; reached are %v", w, h, m.blocks, from, got, err, reached)
			}
			for to := range w * h {
				if got := r.Together(from, to); got != slices.Contains(reached, to) {
					t.Fatalf("%d by %d, blocked %v: Together(%d, %d): %v; reached are %v", w, h, m.blocks, from, to, got, reached)
				}
			}
		}
	}
}

// walkFrom are the tiles that are come to from a free one.
func walkFrom(m *model, from int) []int {
	if !m.free(from) {
		return nil
	}
	reached := []int{from}
	for i := 0; i < len(reached); i++ {
		for to := range m.w * m.h {
			if m.free(to) && m.isNext(reached[i], to) && !slices.Contains(reached, to) {
				reached = append(reached, to)
			}
		}
	}
	return reached
}

// TestGridsCornerAndSizeDontMatter: labels are those of the columns and rows alone.
func TestGridsCornerAndSizeDontMatter(t *testing.T) {
	_, m := regionsOf(t, 4, 3, 1, 5, 9)
	for _, g := range []api.Grid{{W: 4, H: 3, Size: 1}, {W: 4, H: 3, Size: size, X: coord, Y: -coord}, {W: 4, H: 3, Size: 77, X: -9, Y: 9}} {
		r, err := region.New(g)
		if err != nil {
			t.Fatal(err)
		}
		if err := r.Block(1, 5, 9); err != nil {
			t.Fatal(err)
		}
		same(t, r, m)
	}
}
