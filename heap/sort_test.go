package heap_test

import (
	"fmt"
	"slices"
	"testing"

	"paddock/api"
	"paddock/heap"
)

// sorts holds Sort's answer to what is written down.
func sorts(t *testing.T, when string, list, want []heap.Entry) {
	t.Helper()
	got, err := heap.Sort(list)
	if err != nil || !slices.Equal(got, want) {
		t.Fatalf("%s: Sort: %.200s, %v; asked is %.200s", when, fmt.Sprint(got), err, fmt.Sprint(want))
	}
}

func TestSortByHand(t *testing.T) {
	sorts(t, "no list", nil, nil)
	sorts(t, "an empty list", []heap.Entry{}, nil)
	sorts(t, "one", rise(5, 1), rise(5, 1))
	sorts(t, "the example",
		[]heap.Entry{{Key: 3, Value: 1}, {Key: 2, Value: 9}, {Key: 2, Value: 4}},
		[]heap.Entry{{Key: 2, Value: 4}, {Key: 2, Value: 9}, {Key: 3, Value: 1}})
	sorts(t, "the same ones",
		[]heap.Entry{{Key: 1, Value: 1}, {Key: 0, Value: 1}, {Key: 1, Value: 1}, {Key: 1, Value: 0}, {Key: 1, Value: 1}},
		[]heap.Entry{{Key: 0, Value: 1}, {Key: 1, Value: 0}, {Key: 1, Value: 1}, {Key: 1, Value: 1}, {Key: 1, Value: 1}})
	sorts(t, "numbers below 0", keyed(0, -1, 1, -2), keyed(-2, -1, 0, 1))
}

// TestSortOfAllOrders: whatever the order of the list, the answer is in theirs, with the same ones as often as they came.
func TestSortOfAllOrders(t *testing.T) {
	want := []heap.Entry{{Key: -3, Value: 8}, {Key: 1, Value: -5}, {Key: 1, Value: 2}, {Key: 1, Value: 2}, {Key: 1, Value: 9}, {Key: 4, Value: -9}, {Key: 4, Value: -9}, {Key: 7, Value: -1}}
	for n := range len(want) + 1 {
		list := slices.Clone(want[:n])
		eachOrder(list, 0, func() { sorts(t, fmt.Sprint(list), list, want[:n]) })
	}
}

func TestSortOfEdgeNumbers(t *testing.T) {
	all := edgeEntries()
	for i, a := range all {
		for _, b := range all[i:] {
			sorts(t, "two", []heap.Entry{a, b}, []heap.Entry{a, b})
			sorts(t, "two", []heap.Entry{b, a}, []heap.Entry{a, b})
		}
	}
	twice := slices.Concat(all, all)
	for seed := range uint64(20) {
		sorts(t, "all", shuffled(drawer(seed), all), all)
		got, err := heap.Sort(shuffled(drawer(seed), twice))
		if err != nil || len(got) != len(twice) {
			t.Fatalf("Sort of all of them twice: %d entries, %v", len(got), err)
		}
		for i, e := range got {
			if e != all[i/2] {
				t.Fatalf("Sort of all of them twice: %v at place %d; asked is %v", e, i, all[i/2])
			}
		}
	}
}

// TestSortIsPopping: a list is sorted as it comes out of a heap.
func TestSortIsPopping(t *testing.T) {
	for n := range 300 {
		draw := drawer(uint64(n))
		list := drawn(draw, n, 1+n/3)
		h := heap.New()
		if err := h.Push(list...); err != nil {
			t.Fatal(err)
		}
		var want []heap.Entry
		for h.Len() > 0 {
			e, _ := h.Pop()
			want = append(want, e)
		}
		sorts(t, fmt.Sprint(n, " entries"), list, want)
	}
}

func TestSortOfMany(t *testing.T) {
	up := rise(0, most)
	down := slices.Clone(up)
	slices.Reverse(down)
	alike := slices.Repeat(rise(7, 1), most)
	sorts(t, "rising", up, up)
	sorts(t, "falling", down, up)
	sorts(t, "alike", alike, alike)
	sorts(t, "in any order", shuffled(drawer(4), up), up)
	sorts(t, "one fewer", down[1:], up[:most-1])
	for _, n := range []int{most + 1, most + 2, 2 * most, 1 << 16, 1<<16 + 1, 1 << 20} {
		if list, err := heap.Sort(rise(0, n)); len(list) != 0 || err != api.ErrFull {
			t.Fatalf("Sort of %d entries: %d, %v", n, len(list), err)
		}
	}
}

// TestSortAsksNoHeap: what heaps hold doesn't matter to it.
func TestSortAsksNoHeap(t *testing.T) {
	h := heap.New()
	if err := h.Push(rise(0, most)...); err != nil {
		t.Fatal(err)
	}
	sorts(t, "beside a full heap", keyed(2, 1), keyed(1, 2))
	drains(t, "beside a Sort", h, rise(0, most))
}
