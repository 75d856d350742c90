package order_test

import (
	"slices"
	"testing"

	"paddock/api"
	"paddock/order"
)

// roomy is a list with room behind it, into which an append of its own would write, and all of its memory.
func roomy[T any](things []T, behind T) (list, whole []T) {
	whole = slices.Clone(things)
	for range 4 {
		whole = append(whole, behind)
	}
	return whole[:len(things)], whole
}

// checkOwn holds a call to P2.2: of lists with room that are handed in nothing changes, neither by the call nor by a change or an append to its answer, nor does a change of the lists show in the answer.
func checkOwn[T comparable](t *testing.T, name string, behind, other T, call func(a, b []T) []T, a, b []T) {
	t.Helper()
	listA, wholeA := roomy(a, behind)
	listB, wholeB := roomy(b, behind)
	wasA, wasB := slices.Clone(wholeA), slices.Clone(wholeB)
	stays := func(when string) {
		t.Helper()
		if !slices.Equal(wholeA, wasA) || !slices.Equal(wholeB, wasB) {
			t.Fatalf("%s of %v and %v: after %s they are %v and %v", name, a, b, when, wholeA, wholeB)
		}
	}
	got := call(listA, listB)
	stays("the call")
	want := slices.Clone(got)
	again := call(listA, listB)
	fill(again[:cap(again)], other)
	stays("a change of the answer")
	if !slices.Equal(got, want) {
		t.Fatalf("%s of %v and %v: a change of one answer shows in another one: %v", name, a, b, got)
	}
	fill(wholeA, other)
	fill(wholeB, other)
	if !slices.Equal(got, want) {
		t.Fatalf("%s of %v and %v: a change of the lists shows in the answer: %v", name, a, b, got)
	}
}

// fill puts x to each place.
func fill[T any](list []T, x T) {
	for i := range list {
		list[i] = x
	}
}

func TestHandlesAreOwn(t *testing.T) {
	first := func(call func(...api.Handle) []api.Handle) func(a, b []api.Handle) []api.Handle {
		return func(a, b []api.Handle) []api.Handle { return call(a...) }
	}
	behind, other := handle(77, 7), handle(88, 8)
	for _, a := range allLists(4, someHandles()[1:4]...) {
		checkOwn(t, "Handles", behind, other, first(order.Handles), a, nil)
		for _, b := range allLists(3, someHandles()[1:4]...) {
			checkOwn(t, "Merge", behind, other, order.Merge, a, b)
			checkOwn(t, "Minus", behind, other, order.Minus, a, b)
		}
	}
}

func TestFindLeavesItsList(t *testing.T) {
	for _, list := range allLists(4, someHandles()[1:4]...) {
		was := slices.Clone(list)
		for _, h := range someHandles() {
			order.Find(list, h)
		}
		if !slices.Equal(list, was) {
			t.Fatalf("Find changed its list from %v to %v", was, list)
		}
	}
}

func TestPairsAreOwn(t *testing.T) {
	all := somePairs()
	things := []api.Pair{all[0], all[4], turned(all[0]), turned(all[2]), pair(3, 3, 3, 3)}
	call := func(a, b []api.Pair) []api.Pair { return order.Pairs(a...) }
	for _, list := range allLists(4, things...) {
		checkOwn(t, "Pairs", pair(7, 7, 8, 8), pair(9, 9, 8, 8), call, list, nil)
	}
}

func TestNumbersAreOwn(t *testing.T) {
	for _, list := range allLists(4, 1, 3, 5) {
		checkOwn(t, "Ints", 77, 88, func(a, b []int) []int { return order.Ints(a...) }, list, nil)
		for n := range 7 {
			checkOwn(t, "Put", 77, 88, func(a, b []int) []int { return order.Put(a, n) }, list, nil)
			checkOwn(t, "Drop", 77, 88, func(a, b []int) []int { return order.Drop(a, n) }, list, nil)
		}
	}
}
