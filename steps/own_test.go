package steps_test

import (
	"slices"
	"testing"

	"paddock/steps"
)

// spoil changes all of a list's memory, what lies behind it too.
func spoil[T any](list []T, by T) {
	list = list[:cap(list)]
	for i := range list {
		list[i] = by
	}
}

// TestAnswersAreOwn: a change of an answer shows neither in the ground nor in another answer, nor a later change of the ground in it.
func TestAnswersAreOwn(t *testing.T) {
	g, m := groundOf(t, 4, 3, 1, 8, 9)
	blocked, around := g.Blocked(), g.Around(6)
	wasBlocked, wasAround := slices.Clone(blocked), slices.Clone(around)
	spoil(g.Blocked(), 3)
	spoil(g.Around(6), steps.Step{Dir: 3, To: 3, Cost: 3})
	same(t, g, m)
	sets(t, g, m, 1, true)
	sets(t, g, m, 7, false)
	sets(t, g, m, 10, false)
	if !slices.Equal(blocked, wasBlocked) || !slices.Equal(around, wasAround) {
		t.Fatalf("answers became %v and %v; they were %v and %v", blocked, around, wasBlocked, wasAround)
	}
	spoil(blocked, 3)
	spoil(around, steps.Step{})
	same(t, g, m)
}

// TestArgumentsStay: lists that are handed in are the same behind, and later changes of them don't show.
func TestArgumentsStay(t *testing.T) {
	for _, list := range [][]int{{7, 3, 11, 0}, {7, 3, 7}, {7, 12}, {5, 5, 1}, {0, 1, 2, 6}, {0, 3}, {-1}} {
		all := append(slices.Clone(list), 99, 98)
		want := slices.Clone(all)
		// Whether they are taken doesn't matter here.
		steps.Of(grid(4, 3), all[:len(list)]...)
		g, _ := groundOf(t, 4, 3, 3)
		g.Cost(all[:len(list)])
		if !slices.Equal(all, want) {
			t.Fatalf("%v was left of %v", all, want)
		}
	}
	list := []int{4, 2, 6}
	g, m := groundOf(t, 4, 3, list...)
	spoil(list, 0)
	same(t, g, m)
}

// TestAskingChangesNothing: a ground is the same after it was asked.
func TestAskingChangesNothing(t *testing.T) {
	g, m := groundOf(t, 4, 3, 1, 5, 9)
	for range 2 {
		same(t, g, m)
		for n := -1; n < 13; n++ {
			sameGuesses(t, g, m, n)
			sameCost(t, g, m, []int{0, 4, n})
		}
		g.Clone()
	}
	same(t, g, m)
}

// TestCloneIsApart: a clone is the same, and what is done to one doesn't show in the other.
func TestCloneIsApart(t *testing.T) {
	draw := drawer(5)
	for range 40 {
		w, h := 1+draw(5), 1+draw(5)
		g, m := groundOf(t, w, h, drawnTiles(draw, w, h, 4)...)
		x, k := g.Clone(), m.clone()
		same(t, x, k)
		for range 12 {
			one, two, other := g, m, x
			if draw(2) == 0 {
				one, two, other = x, k, g
			}
			was := other.Blocked()
			sets(t, one, two, draw(w*h), draw(2) == 0)
			if !slices.Equal(other.Blocked(), was) {
				t.Fatalf("the other one's blocked tiles became %v; they were %v", other.Blocked(), was)
			}
		}
		same(t, g, m)
		same(t, x, k)
	}
}

// TestCloneOfAClone: each is apart from all others.
func TestCloneOfAClone(t *testing.T) {
	g, m := groundOf(t, 3, 3, 4)
	x, k := g.Clone(), m.clone()
	y, l := x.Clone(), k.clone()
	sets(t, x, k, 4, true)
	sets(t, y, l, 1, false)
	sets(t, y, l, 3, false)
	same(t, g, m)
	same(t, x, k)
	same(t, y, l)
}

// TestGroundsAreApart: what is blocked on one isn't on another one of the same grid.
func TestGroundsAreApart(t *testing.T) {
	g, m := groundOf(t, 3, 3, 4, 1)
	x, k := groundOf(t, 3, 3)
	same(t, x, k)
	sets(t, x, k, 5, false)
	sets(t, g, m, 1, true)
	same(t, g, m)
	same(t, x, k)
}
