package heap_test

import (
	"fmt"
	"slices"
	"testing"

	"paddock/api"
	"paddock/heap"
)

// most is how many entries a heap holds at most, as the document's limits have it.
const most = 16384

// rise are n entries of rising keys, from first on.
func rise(first, n int) []heap.Entry {
	var list []heap.Entry
	for i := range n {
		list = append(list, heap.Entry{Key: first + i, Value: -i})
	}
	return list
}

// drains holds all that a heap has to what is written down, and leaves it empty.
func drains(t *testing.T, when string, h *heap.Heap, want []heap.Entry) {
	t.Helper()
	if n := h.Len(); n != len(want) {
		t.Fatalf("%s: Len: %d; asked is %d", when, n, len(want))
	}
	for i, e := range want {
		if got, err := h.Pop(); got != e || err != nil {
			t.Fatalf("%s: Pop %d: %v, %v; asked is %v", when, i, got, err, e)
		}
	}
	if got, err := h.Pop(); got != (heap.Entry{}) || err != api.ErrNone {
		t.Fatalf("%s: Pop of none: %v, %v", when, got, err)
	}
}

func TestMost(t *testing.T) {
	if api.MaxHeap != most {
		t.Fatalf("MaxHeap is %d", api.MaxHeap)
	}
}

// TestFullAllAtOnce: as many as may be are pushed at once, and one more is refused, with none of them pushed.
func TestFullAllAtOnce(t *testing.T) {
	list := shuffled(drawer(3), rise(0, most))
	h := heap.New()
	for _, n := range []int{most + 1, most + 2, 2 * most, 1 << 16, 1<<16 + 1, 1 << 20} {
		if err := h.Push(rise(0, n)...); err != api.ErrFull || h.Len() != 0 {
			t.Fatalf("Push of %d to an empty heap: %v, Len: %d", n, err, h.Len())
		}
		if e, err := h.Peek(); e != (heap.Entry{}) || err != api.ErrNone {
			t.Fatalf("Peek after a Push of %d: %v, %v", n, e, err)
		}
	}
	if err := h.Push(list...); err != nil {
		t.Fatalf("Push of as many as may be: %v", err)
	}
	refuses(t, h)
	drains(t, "a full heap", h, rise(0, most))
}

// refuses holds a full heap to refusing any entries, and taking none of them, but none at all.
func refuses(t *testing.T, h *heap.Heap) {
	t.Helper()
	first, _ := h.Peek()
	for _, n := range []int{1, 2, 100, most, most + 1} {
		if err := h.Push(rise(-1<<40, n)...); err != api.ErrFull || h.Len() != most {
			t.Fatalf("Push of %d to a full heap: %v, Len: %d", n, err, h.Len())
		}
	}
	if err := h.Push(); err != nil || h.Len() != most {
		t.Fatalf("Push of none to a full heap: %v, Len: %d", err, h.Len())
	}
	if e, err := h.Peek(); e != first || err != nil {
		t.Fatalf("Peek of a full heap became %v, %v; it was %v", e, err, first)
	}
}

// TestFullOneByOne: so it is of entries that come one by one, from the greatest to the least, from the least on, or all the same.
func TestFullOneByOne(t *testing.T) {
	up := rise(0, most)
	down := slices.Clone(up)
	slices.Reverse(down)
	alike := slices.Repeat(rise(7, 1), most)
	for name, list := range map[string][]heap.Entry{"rising": up, "falling": down, "alike": alike} {
		h := heap.New()
		for i, e := range list {
			if err := h.Push(e); err != nil || h.Len() != i+1 {
				t.Fatalf("%s: Push to %d: %v, Len: %d", name, i, err, h.Len())
			}
		}
		refuses(t, h)
		want := up
		if name == "alike" {
			want = alike
		}
		drains(t, name, h, want)
	}
}

// TestRoomForSome: of each count near the limit, just as many as there is room for are pushed, or none.
func TestRoomForSome(t *testing.T) {
	for _, held := range []int{0, 1, 2, 100, most / 2, most - 3, most - 2, most - 1, most} {
		room := most - held
		for _, n := range []int{0, 1, 2, room - 2, room - 1, room, room + 1, room + 2, most, most + 1} {
			if n < 0 {
				continue
			}
			when := fmt.Sprintf("Push of %d to %d", n, held)
			h := heap.New()
			if err := h.Push(shuffled(drawer(1), rise(0, held))...); err != nil {
				t.Fatalf("Push of %d: %v", held, err)
			}
			want, all := error(nil), slices.Concat(rise(-most-1, n), rise(0, held))
			if n > room {
				want, all = api.ErrFull, rise(0, held)
			}
			if err := h.Push(rise(-most-1, n)...); err != want {
				t.Fatalf("%s: %v; asked is %v", when, err, want)
			}
			drains(t, when, h, all)
		}
	}
}

// TestRoomComesBack: what went leaves room for as many, and no more; a heap that was cleared has room for all.
func TestRoomComesBack(t *testing.T) {
	h := heap.New()
	if err := h.Push(rise(0, most)...); err != nil {
		t.Fatalf("Push: %v", err)
	}
	left := 0
	for _, n := range []int{1, 2, 7, 300, 5000} {
		for range n {
			h.Pop()
		}
		left += n
		if err := h.Push(rise(most, n+1)...); err != api.ErrFull || h.Len() != most-n {
			t.Fatalf("Push of %d where %d went: %v, Len: %d", n+1, n, err, h.Len())
		}
		if e, err := h.Peek(); e.Key != left || err != nil {
			t.Fatalf("Peek: %v, %v; asked is the key %d", e, err, left)
		}
		if err := h.Push(rise(most, n)...); err != nil {
			t.Fatalf("Push of %d where as many went: %v", n, err)
		}
		refuses(t, h)
	}
	h.Clear()
	if err := h.Push(rise(-5, most+1)...); err != api.ErrFull || h.Len() != 0 {
		t.Fatalf("Push of too many to a heap that was cleared: %v, Len: %d", err, h.Len())
	}
	if err := h.Push(rise(-5, most)...); err != nil {
		t.Fatalf("Push to a heap that was cleared: %v", err)
	}
	refuses(t, h)
	drains(t, "cleared, and full again", h, rise(-5, most))
}

// TestAnotherHeapHasRoom: a full heap takes none of another one's room.
func TestAnotherHeapHasRoom(t *testing.T) {
	full, other := heap.New(), heap.New()
	if full.Push(rise(0, most)...) != nil || other.Push(rise(9, most)...) != nil {
		t.Fatal("entries are refused")
	}
	full.Clear()
	drains(t, "the other heap", other, rise(9, most))
	drains(t, "the heap", full, nil)
}
