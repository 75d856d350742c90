package heap_test

import (
	"fmt"
	"slices"
	"testing"

	"paddock/api"
	"paddock/heap"
)

// Each call has just the signature of its chapter.
var (
	_ func() *heap.Heap                        = heap.New
	_ func(*heap.Heap, ...heap.Entry) error    = (*heap.Heap).Push
	_ func(*heap.Heap) (heap.Entry, error)     = (*heap.Heap).Pop
	_ func(*heap.Heap) (heap.Entry, error)     = (*heap.Heap).Peek
	_ func(*heap.Heap) int                     = (*heap.Heap).Len
	_ func(*heap.Heap)                         = (*heap.Heap).Clear
	_ func([]heap.Entry) ([]heap.Entry, error) = heap.Sort
	_ struct{ Key, Value int }                 = heap.Entry{}
)

func TestExample(t *testing.T) {
	h := heap.New()
	if err := h.Push(heap.Entry{Key: 3, Value: 1}, heap.Entry{Key: 2, Value: 9}, heap.Entry{Key: 2, Value: 4}); err != nil {
		t.Fatalf("Push: %v", err)
	}
	if e, err := h.Pop(); e != (heap.Entry{Key: 2, Value: 4}) || err != nil {
		t.Fatalf("Pop: %v, %v", e, err)
	}
	for _, want := range []heap.Entry{{Key: 2, Value: 9}, {Key: 3, Value: 1}} {
		if e, err := h.Pop(); e != want || err != nil {
			t.Fatalf("Pop: %v, %v; asked is %v", e, err, want)
		}
	}
	if e, err := h.Pop(); e != (heap.Entry{}) || err != api.ErrNone {
		t.Fatalf("Pop of none: %v, %v", e, err)
	}
}

func TestByHand(t *testing.T) {
	h := heap.New()
	pop := func(key, value int) {
		t.Helper()
		want := heap.Entry{Key: key, Value: value}
		if e, err := h.Peek(); e != want || err != nil {
			t.Fatalf("Peek: %v, %v; asked is %v", e, err, want)
		}
		if e, err := h.Pop(); e != want || err != nil {
			t.Fatalf("Pop: %v, %v; asked is %v", e, err, want)
		}
	}
	push := func(key, value int) {
		t.Helper()
		if err := h.Push(heap.Entry{Key: key, Value: value}); err != nil {
			t.Fatalf("Push of %d, %d: %v", key, value, err)
		}
	}
	long := func(want int) {
		t.Helper()
		if got := h.Len(); got != want {
			t.Fatalf("Len: %d; asked is %d", got, want)
		}
	}
	push(5, 0)
	push(-5, 0)
	push(5, -1)
	push(4, 100)
	long(4)
	pop(-5, 0)
	push(4, 99)
	push(4, 100) // the same once more
	long(5)
	pop(4, 99)
	pop(4, 100)
	pop(4, 100)
	push(-1, 7)
	pop(-1, 7)
	pop(5, -1)
	long(1)
	h.Clear()
	long(0)
	push(6, 6)
	pop(6, 6)
	long(0)
}

func TestNewIsEmpty(t *testing.T) {
	h, other := heap.New(), heap.New()
	if h == other {
		t.Fatal("New answers one heap twice")
	}
	m, none := &model{}, &model{}
	same(t, "a new heap", h, m)
	pops(t, "a new heap", h, m)
	pushes(t, h, m)
	same(t, "a new heap to which none were pushed", h, m)
	pushes(t, h, m, keyed(3, 1, 2)...)
	same(t, "the other heap", other, none)
	if e, err := heap.New().Pop(); e != (heap.Entry{}) || err != api.ErrNone {
		t.Fatalf("Pop of a new heap: %v, %v", e, err)
	}
}

// TestEmptyOnes: an empty heap tells so at each Pop and Peek, however it became empty, and takes entries again.
func TestEmptyOnes(t *testing.T) {
	for name, empty := range map[string]func(h *heap.Heap, m *model){
		"popped":            func(h *heap.Heap, m *model) { empties(t, "popped", h, m) },
		"cleared":           clears,
		"cleared twice":     func(h *heap.Heap, m *model) { clears(h, m); clears(h, m) },
		"popped, cleared":   func(h *heap.Heap, m *model) { pops(t, "once", h, m); clears(h, m) },
		"cleared, and more": func(h *heap.Heap, m *model) { clears(h, m); pushes(t, h, m, keyed(1)...); pops(t, "one", h, m) },
	} {
		h, m := of(t, keyed(3, 1, 2, 2)...)
		empty(h, m)
		for range 3 {
			if e, err := h.Pop(); e != (heap.Entry{}) || err != api.ErrNone {
				t.Fatalf("%s: Pop: %v, %v", name, e, err)
			}
			if e, err := h.Peek(); e != (heap.Entry{}) || err != api.ErrNone {
				t.Fatalf("%s: Peek: %v, %v", name, e, err)
			}
			if n := h.Len(); n != 0 {
				t.Fatalf("%s: Len: %d", name, n)
			}
		}
		pushes(t, h, m, keyed(9, 8, 8, 9, 7)...)
		empties(t, name+", and pushed to", h, m)
	}
}

// TestPeekChangesNothing: however often it is asked, the entries come out as they would have.
func TestPeekChangesNothing(t *testing.T) {
	h, m := of(t, keyed(5, 2, 8, 2, 9, 1)...)
	for range 6 {
		for range 5 {
			same(t, "asked often", h, m)
		}
		pops(t, "asked often", h, m)
	}
}

// eachOrder calls try with all orders of the list, of places first to its end.
func eachOrder(list []heap.Entry, first int, try func()) {
	if first == len(list) {
		try()
		return
	}
	for i := first; i < len(list); i++ {
		list[first], list[i] = list[i], list[first]
		eachOrder(list, first+1, try)
		list[first], list[i] = list[i], list[first]
	}
}

// holdsOrder pushes a list all at once, and one by one, and holds what comes out to what is written down.
func holdsOrder(t *testing.T, list, want []heap.Entry) {
	t.Helper()
	once, singly := heap.New(), heap.New()
	if err := once.Push(list...); err != nil {
		t.Fatalf("Push: %v", err)
	}
	for _, e := range list {
		if err := singly.Push(e); err != nil {
			t.Fatalf("Push: %v", err)
		}
	}
	for _, h := range []*heap.Heap{once, singly} {
		for i, e := range want {
			if n := h.Len(); n != len(want)-i {
				t.Fatalf("of %v Len is %d after %d went", list, n, i)
			}
			if got, err := h.Pop(); got != e || err != nil {
				t.Fatalf("of %v Pop answers %v, %v at place %d; asked is %v", list, got, err, i, e)
			}
		}
		if n := h.Len(); n != 0 {
			t.Fatalf("of %v Len is %d at the end", list, n)
		}
	}
}

// TestAllOrdersOfEntries: whatever the order in which they are pushed, they come out in theirs.
func TestAllOrdersOfEntries(t *testing.T) {
	want := []heap.Entry{{Key: -3, Value: 8}, {Key: 1, Value: -5}, {Key: 1, Value: 2}, {Key: 1, Value: 2}, {Key: 1, Value: 9}, {Key: 4, Value: -9}, {Key: 4, Value: 0}, {Key: 7, Value: -1}}
	for n := range len(want) + 1 {
		list := slices.Clone(want[:n])
		eachOrder(list, 0, func() { holdsOrder(t, list, want[:n]) })
	}
}

// TestEdgeNumbers: entries of far numbers come in their order, too, two by two and all together.
func TestEdgeNumbers(t *testing.T) {
	all := edgeEntries()
	for i, a := range all {
		for _, b := range all[i:] {
			holdsOrder(t, []heap.Entry{a, b}, []heap.Entry{a, b})
			holdsOrder(t, []heap.Entry{b, a}, []heap.Entry{a, b})
		}
	}
	for seed := range uint64(20) {
		holdsOrder(t, shuffled(drawer(seed), all), all)
	}
	back := slices.Clone(all)
	slices.Reverse(back)
	holdsOrder(t, all, all)
	holdsOrder(t, back, all)
}

// call is a call that changes a heap, or is refused.
type call struct {
	name string
	do   func(h *heap.Heap, m *model)
}

// calls are the calls of a short row.
func calls(t *testing.T) []call {
	all := []call{
		{"Pop;", func(h *heap.Heap, m *model) { pops(t, "in a row", h, m) }},
		{"Clear;", clears},
	}
	for _, list := range [][]heap.Entry{
		nil, {{Key: 1, Value: 1}}, {{Key: 1, Value: 2}}, {{Key: 0, Value: 3}}, {{Key: 2, Value: 0}},
		{{Key: 2, Value: 2}, {Key: 0, Value: 4}}, {{Key: 1, Value: 0}, {Key: 1, Value: 1}, {Key: 0, Value: 9}},
	} {
		all = append(all, call{fmt.Sprintf("Push %v;", list), func(h *heap.Heap, m *model) { pushes(t, h, m, list...) }})
	}
	return all
}

// TestAllOrders goes through all short rows of calls, each on a new heap.
func TestAllOrders(t *testing.T) {
	const steps = 5
	var row []call
	var try func(names string)
	try = func(names string) {
		h, m := heap.New(), &model{}
		for _, c := range row {
			c.do(h, m)
		}
		same(t, names, h, m)
		empties(t, names, h, m)
		if len(row) == steps {
			return
		}
		for _, c := range calls(t) {
			row = append(row, c)
			try(names + c.name)
			row = row[:len(row)-1]
		}
	}
	try("")
}

// TestLongOrders lets heaps grow and shrink to and fro, with few different entries and with many.
func TestLongOrders(t *testing.T) {
	for _, below := range []int{1, 2, 5, 40, 1 << 30} {
		draw := drawer(uint64(below))
		h, m := heap.New(), &model{}
		for step := range 9000 {
			when := fmt.Sprintf("numbers below %d, step %d", below, step)
			grows := step/700%2 == 0
			switch k := draw(10); {
			case k < 5 && grows || k < 1:
				pushes(t, h, m, drawn(draw, draw(3), below)...)
			case k < 2:
				pushes(t, h, m, drawn(draw, 1, below)...)
			case step%2500 == 2499:
				clears(h, m)
			default:
				pops(t, when, h, m)
			}
			same(t, when, h, m)
		}
		empties(t, "at the end", h, m)
	}
}

// TestNoHistory: heaps that came to the same entries by other ways answer the same.
func TestNoHistory(t *testing.T) {
	all := edgeEntries()
	least, want := all[0], all[1:200]
	for way := range uint64(12) {
		draw := drawer(way)
		h := heap.New()
		if way%3 == 0 {
			h.Push(all...)
			h.Clear()
		}
		for i, e := range shuffled(draw, want) {
			if err := h.Push(e); err != nil {
				t.Fatalf("way %d, step %d: Push: %v", way, i, err)
			}
			if draw(2) == 0 {
				continue
			}
			if err := h.Push(least); err != nil {
				t.Fatalf("way %d, step %d: Push: %v", way, i, err)
			}
			if got, err := h.Pop(); got != least || err != nil {
				t.Fatalf("way %d, step %d: Pop: %v, %v; asked is %v", way, i, got, err, least)
			}
		}
		for i, e := range want {
			if got, err := h.Pop(); got != e || err != nil {
				t.Fatalf("way %d, Pop %d: %v, %v; asked is %v", way, i, got, err, e)
			}
		}
	}
}
