package region_test

import (
	"slices"
	"testing"
)

// spoil changes all of a list's memory, what lies behind it too.
func spoil(list []int) {
	list = list[:cap(list)]
	for i := range list {
		list[i] = -7
	}
}

// TestLabelsAreOwn: a change of an answer shows neither in the regions nor in another answer, nor a later change of the regions in it.
func TestLabelsAreOwn(t *testing.T) {
	r, m := regionsOf(t, 4, 3, 1, 5, 9)
	first, second := r.Labels(), r.Labels()
	was := slices.Clone(first)
	spoil(second)
	same(t, r, m)
	if !slices.Equal(first, was) {
		t.Fatalf("another answer became %v; it was %v", first, was)
	}
	blocks(t, r, m, 0, 2)
	frees(t, r, m, 9, 5)
	if !slices.Equal(first, was) {
		t.Fatalf("after the regions were changed: %v; asked is %v", first, was)
	}
	spoil(first)
	same(t, r, m)
}

// TestArgumentsStay: lists that are handed in are the same behind, and later changes of them don't show.
func TestArgumentsStay(t *testing.T) {
	r, m := regionsOf(t, 4, 3)
	for _, list := range [][]int{{7, 3, 11, 0}, {7, 3, 7}, {7, 12}, {5, 5, 1}} {
		all := append(slices.Clone(list), 99, 98)
		handed := all[:len(list)]
		want := slices.Clone(all)
		blocks(t, r, m, handed...)
		if !slices.Equal(all, want) {
			t.Fatalf("Block left %v of %v", all, want)
		}
		frees(t, r, m, handed...)
		if !slices.Equal(all, want) {
			t.Fatalf("Free left %v of %v", all, want)
		}
	}
	list := []int{4, 2, 6}
	blocks(t, r, m, list...)
	spoil(list)
	same(t, r, m)
}

// TestCloneIsApart: a clone is the same, and what is done to one doesn't show in the other.
func TestCloneIsApart(t *testing.T) {
	draw := drawer(5)
	for range 40 {
		w, h := 1+draw(5), 1+draw(5)
		r, m := regionsOf(t, w, h, drawnTiles(draw, w, h, 4)...)
		x, k := r.Clone(), m.clone()
		same(t, x, k)
		for range 12 {
			one, two, other := r, m, x
			if draw(2) == 0 {
				one, two, other = x, k, r
			}
			was := other.Labels()
			if draw(2) == 0 {
				blocks(t, one, two, slices.DeleteFunc(drawnTiles(draw, w, h, 3), two.blocked)...)
			} else {
				frees(t, one, two, slices.DeleteFunc(drawnTiles(draw, w, h, 2), two.free)...)
			}
			if !slices.Equal(other.Labels(), was) {
				t.Fatalf("the other one's labels became %v; they were %v", other.Labels(), was)
			}
		}
		same(t, r, m)
		same(t, x, k)
	}
}

// TestCloneOfAClone: each is apart from all others.
func TestCloneOfAClone(t *testing.T) {
	r, m := regionsOf(t, 3, 3, 4)
	x, k := r.Clone(), m.clone()
	y, l := x.Clone(), k.clone()
	frees(t, x, k, 4)
	blocks(t, y, l, 1, 3)
	same(t, r, m)
	same(t, x, k)
	same(t, y, l)
}

// TestRegionsAreApart: what is blocked in one isn't in another one of the same grid.
func TestRegionsAreApart(t *testing.T) {
	r, m := regionsOf(t, 3, 3, 4, 1)
	x, k := regionsOf(t, 3, 3)
	same(t, x, k)
	blocks(t, x, k, 3, 5)
	same(t, r, m)
	same(t, x, k)
}
