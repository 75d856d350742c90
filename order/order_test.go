package order_test

import (
	"math"
	"slices"
	"testing"

	"paddock/api"
	"paddock/order"
)

// Each call has just the signature of its chapter.
var (
	_ func(api.Handle, api.Handle) bool                 = order.Less
	_ func(...api.Handle) []api.Handle                  = order.Handles
	_ func(api.Handle, api.Handle) (api.Pair, bool)     = order.Pair
	_ func(...api.Pair) []api.Pair                      = order.Pairs
	_ func([]api.Handle, api.Handle) int                = order.Find
	_ func([]api.Handle, []api.Handle) []api.Handle     = order.Merge
	_ func(a []api.Handle, b []api.Handle) []api.Handle = order.Minus
	_ func([]int, int) []int                            = order.Put
	_ func([]int, int) []int                            = order.Drop
	_ func(...int) []int                                = order.Ints
)

func handle(index, gen int) api.Handle { return api.Handle{Index: index, Gen: gen} }

func pair(a, b, c, d int) api.Pair { return api.Pair{A: handle(a, b), B: handle(c, d)} }

// edges rise; differences of some of them wrap round in 32 or 64 bits.
func edges() []int {
	return []int{
		math.MinInt, math.MinInt + 1, -1 << 32, math.MinInt32, -2, -1, 0, 1, 2,
		math.MaxInt32, 1 << 32, math.MaxInt - 1, math.MaxInt,
	}
}

// edgeHandles rise, as they are made by Index first, and by Gen within.
func edgeHandles() []api.Handle {
	var list []api.Handle
	for _, index := range edges() {
		for _, gen := range edges() {
			list = append(list, handle(index, gen))
		}
	}
	return list
}

// someHandles are a few that rise: written down in their order, so that no test has to reckon it.
func someHandles() []api.Handle {
	return []api.Handle{
		handle(math.MinInt, math.MaxInt), handle(-1, 7), handle(0, 1), handle(0, 2), handle(1, -9), handle(math.MaxInt, 0),
	}
}

// somePairs rise: all pairs of four handles, written down in their order.
func somePairs() []api.Pair {
	return []api.Pair{
		pair(0, 1, 0, 2), pair(0, 1, 1, -9), pair(0, 1, 5, 0),
		pair(0, 2, 1, -9), pair(0, 2, 5, 0), pair(1, -9, 5, 0),
	}
}

func turned(p api.Pair) api.Pair { return api.Pair{A: p.B, B: p.A} }

// allLists are all lists of at most n of these things, each any times, in any order.
func allLists[T any](n int, things ...T) [][]T {
	lists := [][]T{nil}
	for from := 0; n > 0; n-- {
		upTo := len(lists)
		for _, list := range lists[from:upTo] {
			for _, x := range things {
				lists = append(lists, append(slices.Clone(list), x))
			}
		}
		from = upTo
	}
	return lists
}

// parts are all choices of these things, in the order in which these stand.
func parts[T any](things ...T) [][]T {
	lists := [][]T{nil}
	for _, x := range things {
		for _, list := range slices.Clone(lists) {
			lists = append(lists, append(slices.Clone(list), x))
		}
	}
	return lists
}

// only are the things for which it holds, in the order in which these stand.
func only[T any](things []T, holds func(T) bool) []T {
	var list []T
	for _, x := range things {
		if holds(x) {
			list = append(list, x)
		}
	}
	return list
}

// series are n numbers from 0 to below most, in no order to be seen, the same at each run.
func series(n, most int) []int {
	list := make([]int, n)
	for i, k := 0, 1; i < n; i++ {
		k = (k*1103515245 + 12345) % (1 << 31)
		list[i] = k / 65536 % most
	}
	return list
}

func TestLess(t *testing.T) {
	list := edgeHandles()
	for i, a := range list {
		for k, b := range list {
			if got := order.Less(a, b); got != (i < k) {
				t.Fatalf("Less(%v, %v): %v", a, b, got)
			}
		}
	}
}

func TestLessByHand(t *testing.T) {
	for _, c := range []struct {
		a, b api.Handle
		want bool
	}{
		{handle(1, 9), handle(2, 1), true},
		{handle(2, 1), handle(1, 9), false},
		{handle(2, 1), handle(2, 2), true},
		{handle(2, 2), handle(2, 1), false},
		{handle(2, 1), handle(2, 1), false},
		{handle(0, 0), handle(0, 0), false},
		{handle(-1, 5), handle(0, 0), true},
		{handle(0, -1), handle(0, 0), true},
		{handle(math.MinInt, 0), handle(math.MaxInt, 0), true},
		{handle(3, math.MaxInt), handle(3, math.MinInt), false},
	} {
		if got := order.Less(c.a, c.b); got != c.want {
			t.Errorf("Less(%v, %v): %v", c.a, c.b, got)
		}
	}
}

func TestHandles(t *testing.T) {
	all := someHandles()
	for _, list := range allLists(5, all...) {
		want := only(all, func(h api.Handle) bool { return slices.Contains(list, h) })
		if got := order.Handles(list...); !slices.Equal(got, want) {
			t.Fatalf("Handles(%v): %v", list, got)
		}
	}
}

func TestHandlesByHand(t *testing.T) {
	for _, c := range []struct{ list, want []api.Handle }{
		{nil, nil},
		{[]api.Handle{}, nil},
		{[]api.Handle{handle(2, 1), handle(1, 9), handle(2, 1)}, []api.Handle{handle(1, 9), handle(2, 1)}},
		{[]api.Handle{handle(0, 0)}, []api.Handle{handle(0, 0)}},
		{[]api.Handle{handle(3, 3), handle(3, 3), handle(3, 3)}, []api.Handle{handle(3, 3)}},
		{[]api.Handle{handle(3, 1), handle(3, 3), handle(3, 2)}, []api.Handle{handle(3, 1), handle(3, 2), handle(3, 3)}},
		{[]api.Handle{handle(1, 0), handle(-1, 0), handle(0, 0)}, []api.Handle{handle(-1, 0), handle(0, 0), handle(1, 0)}},
	} {
		if got := order.Handles(c.list...); !slices.Equal(got, c.want) {
			t.Errorf("Handles(%v): %v", c.list, got)
		}
	}
}

func TestHandlesOfEdges(t *testing.T) {
	want := edgeHandles()
	list := slices.Concat(want, want)
	slices.Reverse(list)
	if got := order.Handles(list...); !slices.Equal(got, want) {
		t.Errorf("Handles of the edges from behind, twice: %v", got)
	}
}

func TestLongLists(t *testing.T) {
	var all, list []api.Handle
	numbers := series(9000, 1600)
	for n := range 1600 {
		if slices.Contains(numbers, n) {
			all = append(all, handle(n/40-20, n%40-20))
		}
	}
	for _, n := range numbers {
		list = append(list, handle(n/40-20, n%40-20))
	}
	if got := order.Handles(list...); !slices.Equal(got, all) {
		t.Errorf("Handles of a long list: %d of %d, or not in order", len(got), len(all))
	}
	if got := order.Merge(order.Handles(list[:4000]...), order.Handles(list[4000:]...)); !slices.Equal(got, all) {
		t.Errorf("Merge of long lists: %d of %d, or not in order", len(got), len(all))
	}
	for i, h := range all {
		if got := order.Find(all, h); got != i {
			t.Fatalf("Find(.., %v): %d", h, got)
		}
	}
	checkLongInts(t, numbers)
}

func checkLongInts(t *testing.T, numbers []int) {
	t.Helper()
	var want []int
	for n := range 1600 {
		if slices.Contains(numbers, n) {
			want = append(want, n)
		}
	}
	if got := order.Ints(numbers...); !slices.Equal(got, want) {
		t.Errorf("Ints of a long list: %d of %d, or not in order", len(got), len(want))
	}
}

func TestLongPairs(t *testing.T) {
	var want, list []api.Pair
	for a := range 30 {
		for b := a + 1; b < 30; b++ {
			want = append(want, pair(a/6, a%6, b/6, b%6))
		}
	}
	for _, n := range series(20000, 900) {
		list = append(list, pair(n/30/6, n/30%6, n%30/6, n%30%6))
	}
	for i, p := range want { // so that each is there for certain
		list = append(list, p, turned(p))
		list[i], list[len(list)-1] = list[len(list)-1], list[i]
	}
	if got := order.Pairs(list...); !slices.Equal(got, want) {
		t.Errorf("Pairs of a long list: %d of %d, or not in order", len(got), len(want))
	}
}

func TestPair(t *testing.T) {
	list := edgeHandles()
	for i, a := range list {
		for k, b := range list {
			want := api.Pair{A: a, B: b}
			if k < i {
				want = api.Pair{A: b, B: a}
			}
			if k == i {
				want = api.Pair{}
			}
			if got, ok := order.Pair(a, b); got != want || ok != (i != k) {
				t.Fatalf("Pair(%v, %v): %v, %v", a, b, got, ok)
			}
		}
	}
}

func TestPairs(t *testing.T) {
	all := somePairs()
	things := append(slices.Clone(all), turned(all[0]), turned(all[2]), turned(all[5]), pair(0, 1, 0, 1), pair(9, 9, 9, 9))
	for _, list := range allLists(4, things...) {
		want := only(all, func(p api.Pair) bool { return slices.Contains(list, p) || slices.Contains(list, turned(p)) })
		if got := order.Pairs(list...); !slices.Equal(got, want) {
			t.Fatalf("Pairs(%v): %v", list, got)
		}
	}
}

func TestPairsByHand(t *testing.T) {
	for _, c := range []struct {
		name       string
		list, want []api.Pair
	}{
		{"none", nil, nil},
		{"of two same ones", []api.Pair{pair(4, 4, 4, 4), {}}, nil},
		{"turned", []api.Pair{pair(2, 1, 1, 1)}, []api.Pair{pair(1, 1, 2, 1)}},
		{"turned by Gen", []api.Pair{pair(2, 5, 2, 1)}, []api.Pair{pair(2, 1, 2, 5)}},
		{"turned and not", []api.Pair{pair(2, 1, 1, 1), pair(1, 1, 2, 1)}, []api.Pair{pair(1, 1, 2, 1)}},
		{"by B", []api.Pair{pair(1, 1, 3, 0), pair(1, 1, 2, 9)}, []api.Pair{pair(1, 1, 2, 9), pair(1, 1, 3, 0)}},
		{"by B's Gen", []api.Pair{pair(1, 1, 3, 2), pair(1, 1, 3, 1)}, []api.Pair{pair(1, 1, 3, 1), pair(1, 1, 3, 2)}},
		{"by A ahead of B", []api.Pair{pair(2, 1, 3, 1), pair(1, 1, 9, 1)}, []api.Pair{pair(1, 1, 9, 1), pair(2, 1, 3, 1)}},
		{"by A's Gen ahead of B", []api.Pair{pair(1, 2, 3, 1), pair(1, 1, 9, 1)}, []api.Pair{pair(1, 1, 9, 1), pair(1, 2, 3, 1)}},
		{"in order by the pair, not as handed in", []api.Pair{pair(1, 9, 3, 0), pair(5, 0, 1, 1)}, []api.Pair{pair(1, 1, 5, 0), pair(1, 9, 3, 0)}},
		{"far ones", []api.Pair{pair(math.MaxInt, 0, math.MinInt, 0)}, []api.Pair{pair(math.MinInt, 0, math.MaxInt, 0)}},
	} {
		if got := order.Pairs(c.list...); !slices.Equal(got, c.want) {
			t.Errorf("%s: Pairs(%v): %v", c.name, c.list, got)
		}
	}
}

func TestPairsOfEdges(t *testing.T) {
	all := edgeHandles()[:60]
	var want []api.Pair
	for i, a := range all {
		for _, b := range all[i+1:] {
			want = append(want, api.Pair{A: a, B: b})
		}
	}
	list := slices.Concat(want, want)
	for i := range list {
		list[i] = turned(list[i])
	}
	slices.Reverse(list)
	if got := order.Pairs(list...); !slices.Equal(got, want) {
		t.Error("Pairs of the edges, turned, from behind, twice, aren't these pairs in order")
	}
}

// placeByLooking is the place of a handle in a list, looked for one by one.
func placeByLooking(list []api.Handle, h api.Handle) int {
	for i, k := range list {
		if k == h {
			return i
		}
	}
	return -1
}

func TestFind(t *testing.T) {
	asked := append(someHandles(), handle(0, 0), handle(0, 3), handle(-2, 8), handle(1, 1), handle(math.MaxInt, 1), handle(math.MinInt, 0))
	for _, list := range parts(someHandles()...) {
		for _, h := range asked {
			if got := order.Find(list, h); got != placeByLooking(list, h) {
				t.Fatalf("Find(%v, %v): %d", list, h, got)
			}
		}
	}
	all := edgeHandles()
	for i, h := range all {
		if got := order.Find(all, h); got != i {
			t.Errorf("Find of %v among the edges: %d", h, got)
		}
		without := slices.Delete(slices.Clone(all), i, i+1)
		if got := order.Find(without, h); got != -1 {
			t.Errorf("Find of %v among the others: %d", h, got)
		}
	}
	if got := order.Find(nil, api.Handle{}); got != -1 {
		t.Errorf("Find in no list: %d", got)
	}
}

func TestMergeAndMinus(t *testing.T) {
	all := someHandles()
	for _, a := range parts(all...) {
		for _, b := range parts(all...) {
			either := only(all, func(h api.Handle) bool { return slices.Contains(a, h) || slices.Contains(b, h) })
			if got := order.Merge(a, b); !slices.Equal(got, either) {
				t.Fatalf("Merge(%v, %v): %v", a, b, got)
			}
			first := only(all, func(h api.Handle) bool { return slices.Contains(a, h) && !slices.Contains(b, h) })
			if got := order.Minus(a, b); !slices.Equal(got, first) {
				t.Fatalf("Minus(%v, %v): %v", a, b, got)
			}
		}
	}
}

func TestMergeAndMinusOfEdges(t *testing.T) {
	all := edgeHandles()
	var even, odd []api.Handle
	for i, h := range all {
		if i%2 == 0 {
			even = append(even, h)
		} else {
			odd = append(odd, h)
		}
	}
	if got := order.Merge(odd, even); !slices.Equal(got, all) {
		t.Errorf("Merge of halves: %v", got)
	}
	if got := order.Minus(all, odd); !slices.Equal(got, even) {
		t.Errorf("Minus of a half: %v", got)
	}
	if got := order.Minus(odd, even); !slices.Equal(got, odd) {
		t.Errorf("Minus of the other half: %v", got)
	}
	if got := order.Minus(odd, all); len(got) != 0 {
		t.Errorf("Minus of all: %v", got)
	}
}

func TestPutAndDrop(t *testing.T) {
	all := edges()
	for _, list := range parts(all[3:10]...) {
		for _, n := range all {
			with := only(all, func(k int) bool { return k == n || slices.Contains(list, k) })
			if got := order.Put(list, n); !slices.Equal(got, with) {
				t.Fatalf("Put(%v, %d): %v", list, n, got)
			}
			without := only(list, func(k int) bool { return k != n })
			if got := order.Drop(list, n); !slices.Equal(got, without) {
				t.Fatalf("Drop(%v, %d): %v", list, n, got)
			}
		}
	}
}

func TestPutAndDropByHand(t *testing.T) {
	for _, c := range []struct {
		list      []int
		n         int
		put, drop []int
	}{
		{[]int{1, 5}, 3, []int{1, 3, 5}, []int{1, 5}},
		{[]int{1, 5}, 0, []int{0, 1, 5}, []int{1, 5}},
		{[]int{1, 5}, 6, []int{1, 5, 6}, []int{1, 5}},
		{[]int{1, 5}, 1, []int{1, 5}, []int{5}},
		{[]int{1, 5}, 5, []int{1, 5}, []int{1}},
		{[]int{7}, 7, []int{7}, nil},
		{nil, 0, []int{0}, nil},
		{[]int{}, -4, []int{-4}, []int{}},
		{[]int{math.MinInt, math.MaxInt}, 0, []int{math.MinInt, 0, math.MaxInt}, []int{math.MinInt, math.MaxInt}},
	} {
		if got := order.Put(c.list, c.n); !slices.Equal(got, c.put) {
			t.Errorf("Put(%v, %d): %v", c.list, c.n, got)
		}
		if got := order.Drop(c.list, c.n); !slices.Equal(got, c.drop) {
			t.Errorf("Drop(%v, %d): %v", c.list, c.n, got)
		}
	}
}

func TestInts(t *testing.T) {
	all := []int{math.MinInt, -3, 0, 10, math.MaxInt}
	for _, list := range allLists(5, all...) {
		want := only(all, func(n int) bool { return slices.Contains(list, n) })
		if got := order.Ints(list...); !slices.Equal(got, want) {
			t.Fatalf("Ints(%v): %v", list, got)
		}
	}
	list := slices.Concat(edges(), edges())
	slices.Reverse(list)
	if got := order.Ints(list...); !slices.Equal(got, edges()) {
		t.Errorf("Ints of the edges from behind, twice: %v", got)
	}
}

// TestListsThatDoNotRise: any list is answered, so it's only held that there is an answer.
func TestListsThatDoNotRise(t *testing.T) {
	all := someHandles()[:3]
	for _, a := range allLists(4, all...) {
		for _, h := range someHandles() {
			if i := order.Find(a, h); i < -1 || i >= len(a) || i >= 0 && a[i] != h {
				t.Fatalf("Find(%v, %v): %d", a, h, i)
			}
		}
		for _, b := range allLists(4, all...) {
			order.Merge(a, b)
			order.Minus(a, b)
		}
	}
	for _, list := range allLists(5, 1, 2, 3) {
		for n := range 5 {
			order.Put(list, n)
			order.Drop(list, n)
		}
	}
}
