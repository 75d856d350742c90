package axis_test

import (
	"fmt"
	"slices"
	"testing"

	"paddock/api"
	"paddock/axis"
)

// call is a call that changes an axis, or is refused.
type call struct {
	name string
	do   func(a *axis.Axis, m *model)
}

// calls are the calls of a short row.
func calls(t *testing.T) []call {
	var all []call
	for _, h := range []api.Handle{handle(1, 2), handle(1, 1), handle(0, 7)} {
		all = append(all, call{fmt.Sprintf("Drop %v;", h), func(a *axis.Axis, m *model) { drops(t, a, m, h) }})
		for _, s := range [][2]int{{1, 3}, {3, 3}, {4, 5}, {5, 4}} {
			all = append(all, call{fmt.Sprintf("Put %v %v;", h, s), func(a *axis.Axis, m *model) { puts(t, a, m, h, s[0], s[1]) }})
		}
	}
	return all
}

// TestAllOrders goes through all short rows of calls, each on a new axis.
func TestAllOrders(t *testing.T) {
	const steps = 4
	all := calls(t)
	var row []call
	var try func(names string)
	try = func(names string) {
		a, m := axis.NewAxis(), &model{}
		for _, c := range row {
			c.do(a, m)
		}
		same(t, names, a, m)
		if len(row) == steps {
			return
		}
		for _, c := range all {
			row = append(row, c)
			try(names + c.name)
			row = row[:len(row)-1]
		}
	}
	try("")
}

// drawnSpan is one whose ends are -below to below; of some the high end is the lesser one.
func drawnSpan(draw func(n int) int, below int) (low, high int) {
	low = draw(2*below+1) - below
	if draw(3) == 0 {
		return low, draw(2*below+1) - below
	}
	return low, min(low+draw(4), below)
}

// TestLongOrders lets an axis grow and shrink to and fro, with numbers that are often the same and with far ones.
func TestLongOrders(t *testing.T) {
	for _, below := range []int{0, 1, 3, 20, 1000, reach, reach + 3} {
		draw := drawer(uint64(below))
		a, m := axis.NewAxis(), &model{}
		for step := range 2500 {
			h := handle(draw(5), draw(4))
			grows := step/300%2 == 0
			if k := draw(10); k < 8 == grows {
				low, high := drawnSpan(draw, below)
				puts(t, a, m, h, low, high)
			} else {
				drops(t, a, m, h)
			}
			same(t, fmt.Sprintf("numbers to %d, step %d", below, step), a, m)
		}
	}
}

// TestNoHistory: axes that came to the same spans by other ways answer the same.
func TestNoHistory(t *testing.T) {
	draw := drawer(9)
	first, m := axis.NewAxis(), &model{}
	for i := range 60 {
		low, high := drawnSpan(draw, 15)
		if low <= high {
			puts(t, first, m, handle(draw(9), i), low, high)
		}
	}
	same(t, "the first way", first, m)
	for way := range uint64(20) {
		draw := drawer(way)
		a := axis.NewAxis()
		for _, x := range shuffled(draw, m.list) {
			other := m.list[draw(len(m.list))].handle
			a.Put(other, -3, 3)
			a.Drop(other)
			a.Put(x.handle, draw(9)-20, draw(9)+20)
		}
		for _, x := range shuffled(draw, m.list) {
			if err := a.Put(x.handle, x.box.X0, x.box.X1); err != nil {
				t.Fatal(err)
			}
		}
		same(t, fmt.Sprint("way ", way), a, m)
	}
}

// TestPutOfTheSame: a span that is put once more changes nothing.
func TestPutOfTheSame(t *testing.T) {
	a, m := of(t, [2]int{1, 3}, [2]int{3, 5}, [2]int{4, 4}, [2]int{1, 3})
	for _, x := range slices.Clone(m.list) {
		for range 3 {
			puts(t, a, m, x.handle, x.box.X0, x.box.X1)
			same(t, "put once more", a, m)
		}
	}
}

// TestEmptied: an axis whose spans are all gone is like a new one, however they went.
func TestEmptied(t *testing.T) {
	spans := [][2]int{{1, 3}, {2, 2}, {0, 9}, {9, 9}, {-4, 1}}
	for seed := range uint64(40) {
		a, m := of(t, spans...)
		for range 2 {
			for _, h := range shuffled(drawer(seed), m.handles()) {
				drops(t, a, m, h)
				same(t, "shrinking", a, m)
			}
			for i := range spans {
				drops(t, a, m, handle(i, 1))
			}
			for i, s := range spans {
				puts(t, a, m, handle(i, 2), s[0], s[1])
				same(t, "growing again", a, m)
			}
		}
	}
}
