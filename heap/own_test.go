package heap_test

import (
	"fmt"
	"slices"
	"testing"

	"paddock/api"
	"paddock/heap"
)

// roomy is a list with room behind it, into which an append of its own would write, and all of its memory.
func roomy(list []heap.Entry) (front, whole []heap.Entry) {
	whole = slices.Concat(list, rise(770, 5))
	return whole[:len(list)], whole
}

// spoil changes all of a list's memory, what lies behind it too.
func spoil(list []heap.Entry) {
	list = list[:cap(list)]
	for i := range list {
		list[i] = heap.Entry{Key: -77, Value: 77}
	}
}

func TestPushKeepsNothing(t *testing.T) {
	for n := range 20 {
		for held := range 4 {
			when := fmt.Sprintf("Push of %d to %d", n, held)
			list, whole := roomy(drawn(drawer(uint64(n)), n, 9))
			was := slices.Clone(whole)
			h, m := of(t, keyed(4, 2, 6, 3)[:held]...)
			pushes(t, h, m, list...)
			if !slices.Equal(whole, was) {
				t.Fatalf("%s: what was handed in became %v; it was %v", when, whole, was)
			}
			spoil(whole)
			same(t, when, h, m)

			copy(whole, was)
			pushes(t, h, m, list...)
			for range (n + held) / 2 {
				pops(t, when, h, m)
			}
			pushes(t, h, m, keyed(-1, 99, 5)...)
			empties(t, when, h, m)
			if !slices.Equal(whole, was) {
				t.Fatalf("%s: what was handed in became %v; it was %v", when, whole, was)
			}
		}
	}
}

func TestRefusedPushKeepsNothing(t *testing.T) {
	list, whole := roomy(shuffled(drawer(2), rise(-most, most)))
	was := slices.Clone(whole)
	h, m := of(t, keyed(3, 1, 2)...)
	pushes(t, h, m, list...)
	if h.Len() != 3 || !slices.Equal(whole, was) {
		t.Fatalf("what was handed in is changed, or pushed: Len is %d", h.Len())
	}
	spoil(whole)
	pushes(t, h, m, keyed(0, 9)...)
	empties(t, "after a Push that was refused", h, m)
}

// TestHeapsAreApart: what is done to one heap doesn't show in another one, of the same list too.
func TestHeapsAreApart(t *testing.T) {
	list := keyed(5, 1, 4, 2, 3)
	h, m := of(t, list...)
	other, n := of(t, list...)
	pops(t, "the one", h, m)
	pushes(t, other, n, keyed(0, 7)...)
	same(t, "the one", h, m)
	clears(h, m)
	same(t, "the other", other, n)
	pushes(t, h, m, keyed(8, 6)...)
	empties(t, "the other", other, n)
	empties(t, "the one", h, m)
}

func TestSortKeepsNothing(t *testing.T) {
	for n := range 40 {
		list, whole := roomy(drawn(drawer(uint64(n)), n, 9))
		was := slices.Clone(whole)
		one, err := heap.Sort(list)
		if err != nil || !slices.Equal(whole, was) {
			t.Fatalf("%v; what was handed in became %v; it was %v", err, whole, was)
		}
		want := slices.Clone(one)
		two, _ := heap.Sort(list)
		spoil(whole)
		if !slices.Equal(one, want) {
			t.Fatalf("an answer became %v; it was %v", one, want)
		}
		spoil(one)
		if !slices.Equal(two, want) {
			t.Fatalf("a change of one answer shows in another one: %v", two)
		}
		copy(whole, was)
		spoil(two)
		if !slices.Equal(whole, was) {
			t.Fatalf("a change of an answer shows in what was handed in: %v", whole)
		}
	}
}

// TestSortOfSortedIsOwn: so it is of a list that is in order already, and of one that is refused.
func TestSortOfSortedIsOwn(t *testing.T) {
	list, whole := roomy(rise(0, 30))
	was := slices.Clone(whole)
	got, err := heap.Sort(list)
	if err != nil {
		t.Fatal(err)
	}
	spoil(got)
	if !slices.Equal(whole, was) {
		t.Fatalf("a change of an answer shows in what was handed in: %v", whole)
	}
	long := shuffled(drawer(6), rise(0, most+1))
	was = slices.Clone(long)
	if got, err := heap.Sort(long); len(got) != 0 || err != api.ErrFull || !slices.Equal(long, was) {
		t.Fatalf("a list of too many is answered %d entries, %v, or changed", len(got), err)
	}
}
