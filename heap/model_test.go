package heap_test

import (
	"fmt"
	"math"
	"slices"
	"testing"

	"paddock/api"
	"paddock/heap"
)

// model is a heap that lays its entries down as they come, and looks through all of them for the first one.
type model struct {
	list []heap.Entry
}

// ahead tells whether an entry comes ahead of another one.
func ahead(a, b heap.Entry) bool {
	if a.Key < b.Key {
		return true
	}
	return a.Key == b.Key && a.Value < b.Value
}

// push puts all of these behind, or none.
func (m *model) push(entries []heap.Entry) error {
	longer := slices.Concat(m.list, entries)
	if len(longer) > most {
		return api.ErrFull
	}
	m.list = longer
	return nil
}

// first is the place of the first entry in order.
func (m *model) first() (int, error) {
	if len(m.list) == 0 {
		return 0, api.ErrNone
	}
	place := 0
	for i, e := range m.list {
		if ahead(e, m.list[place]) {
			place = i
		}
	}
	return place, nil
}

// peek is the first entry in order.
func (m *model) peek() (heap.Entry, error) {
	i, err := m.first()
	if err != nil {
		return heap.Entry{}, err
	}
	return m.list[i], nil
}

// pop takes it out.
func (m *model) pop() (heap.Entry, error) {
	e, err := m.peek()
	if err == nil {
		i, _ := m.first()
		m.list = slices.Concat(m.list[:i], m.list[i+1:])
	}
	return e, err
}

// same holds what a heap answers without a change against the model.
func same(t *testing.T, when string, h *heap.Heap, m *model) {
	t.Helper()
	if h.Len() != len(m.list) {
		t.Fatalf("%s: Len: %d; asked is %d", when, h.Len(), len(m.list))
	}
	want, wantErr := m.peek()
	for range 2 {
		if got, err := h.Peek(); got != want || err != wantErr {
			t.Fatalf("%s: Peek: %v, %v; asked is %v, %v", when, got, err, want, wantErr)
		}
	}
}

// pushes pushes to both, and holds one against the other.
func pushes(t *testing.T, h *heap.Heap, m *model, entries ...heap.Entry) {
	t.Helper()
	held := len(m.list)
	want := m.push(entries)
	if err := h.Push(entries...); err != want {
		t.Fatalf("Push of %d entries to %d: %v; asked is %v", len(entries), held, err, want)
	}
}

// pops pops of both, and holds one against the other.
func pops(t *testing.T, when string, h *heap.Heap, m *model) {
	t.Helper()
	want, wantErr := m.pop()
	if got, err := h.Pop(); got != want || err != wantErr {
		t.Fatalf("%s: Pop: %v, %v; asked is %v, %v", when, got, err, want, wantErr)
	}
}

// clears clears both.
func clears(h *heap.Heap, m *model) {
	h.Clear()
	m.list = nil
}

// empties pops of both up to the end and twice beyond it, and holds one against the other at each step.
func empties(t *testing.T, when string, h *heap.Heap, m *model) {
	t.Helper()
	for range len(m.list) + 2 {
		same(t, when, h, m)
		pops(t, when, h, m)
	}
	same(t, when, h, m)
}

// of is a heap of these entries, and its model.
func of(t *testing.T, entries ...heap.Entry) (*heap.Heap, *model) {
	t.Helper()
	h, m := heap.New(), &model{}
	pushes(t, h, m, entries...)
	same(t, fmt.Sprint("a heap of ", len(entries), " entries"), h, m)
	return h, m
}

// keyed are entries of these keys, each of the value 0.
func keyed(keys ...int) []heap.Entry {
	var list []heap.Entry
	for _, k := range keys {
		list = append(list, heap.Entry{Key: k})
	}
	return list
}

// drawer answers numbers by a fixed rule, from 0 on and below n.
func drawer(seed uint64) func(n int) int {
	rule := seed*2 + 5
	return func(n int) int {
		rule = rule*6364136223846793005 + 1442695040888963407
		return int((rule >> 33) % uint64(n))
	}
}

// drawn are n entries with keys and values from 0 on and below a number.
func drawn(draw func(n int) int, n, below int) []heap.Entry {
	var list []heap.Entry
	for range n {
		list = append(list, heap.Entry{Key: draw(below), Value: draw(below)})
	}
	return list
}

// edgeNumbers are in order; the difference of many of them overflows, and many are the same, cut to fewer bits.
func edgeNumbers() []int {
	return []int{
		math.MinInt, math.MinInt + 1, -1 << 62, -1<<32 - 1, -1 << 32, math.MinInt32, -1 << 16, -256, -2, -1,
		0, 1, 2, 255, 256, 1 << 16, math.MaxInt32, 1 << 32, 1<<32 + 1, 1 << 53, 1<<53 + 1, 1 << 62, math.MaxInt - 1, math.MaxInt,
	}
}

// edgeEntries are entries of all edge numbers, in order.
func edgeEntries() []heap.Entry {
	var list []heap.Entry
	for _, k := range edgeNumbers() {
		for _, v := range edgeNumbers() {
			list = append(list, heap.Entry{Key: k, Value: v})
		}
	}
	return list
}

// shuffled is a list in another order.
func shuffled(draw func(n int) int, list []heap.Entry) []heap.Entry {
	own := slices.Clone(list)
	for i := range own {
		k := i + draw(len(own)-i)
		own[i], own[k] = own[k], own[i]
	}
	return own
}
