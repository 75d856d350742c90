package tables_test

import (
	"fmt"
	"slices"
	"testing"

	"paddock/api"
	"paddock/masks"
	"paddock/tables"
)

// call is a call that changes a store, or is refused.
type call struct {
	name string
	do   func(t *testing.T, got *tables.Store, m *model)
}

// calls are the calls of a short row, with numbers of their own at each step, of three handles and few masks.
func calls(step int) []call {
	var all []call
	for i := range 3 {
		h := handle(i, 1)
		all = append(all,
			call{fmt.Sprintf("Put %d;", i), func(t *testing.T, got *tables.Store, m *model) { puts(t, got, m, h, rowOf(1, 10*step)) }},
			call{fmt.Sprintf("Take %d;", i), func(t *testing.T, got *tables.Store, m *model) { takes(t, got, m, h) }},
			call{fmt.Sprintf("Add %d;", i), func(t *testing.T, got *tables.Store, m *model) { adds(t, got, m, h, value(6, step, 0)) }},
			call{fmt.Sprintf("Remove %d;", i), func(t *testing.T, got *tables.Store, m *model) { removes(t, got, m, h, 0) }},
			call{fmt.Sprintf("Set %d;", i), func(t *testing.T, got *tables.Store, m *model) { sets(t, got, m, h, value(0, step, -step)) }},
		)
	}
	return all
}

// TestAllOrders goes through all short rows of calls, each on a new store that had an entity of each handle, or none.
func TestAllOrders(t *testing.T) {
	const steps = 3
	for _, first := range [][]masks.Mask{nil, {1, 1, 1}, {1, 65, 1}} {
		var row []call
		var try func(names string)
		try = func(names string) {
			got, m := of(t, first...)
			for _, c := range row {
				c.do(t, got, m)
			}
			same(t, names, got, m)
			if len(row) == steps {
				return
			}
			for _, c := range calls(len(row) + 1) {
				row = append(row, c)
				try(names + c.name)
				row = row[:len(row)-1]
			}
		}
		try(fmt.Sprintf("masks %v: ", first))
	}
}

// drawer answers numbers by a fixed rule, from 0 on and below n.
func drawer(seed uint64) func(n int) int {
	rule := seed*2 + 5
	return func(n int) int {
		rule = rule*6364136223846793005 + 1442695040888963407
		return int((rule >> 33) % uint64(n))
	}
}

// TestLongOrders fills and empties stores to and fro, with few masks and with more than there may be, and goes on with a clone now and then.
func TestLongOrders(t *testing.T) {
	refused := map[error]int{}
	for _, kinds := range []int{1, 2, 5, 6, 10} {
		draw := drawer(uint64(kinds))
		got, m := tables.New(), &model{}
		for step := range 6000 {
			h := handle(draw(150), draw(2))
			grows := step/700%2 == 0
			switch k := draw(10); {
			case k < 5 && grows || k < 1:
				row := rowOf(masks.Mask(draw(1<<kinds)), draw(1<<20))
				if err := m.clone().put(h, row); err != nil {
					refused[err]++
				}
				puts(t, got, m, h, row)
			case k < 3:
				takes(t, got, m, h)
			case k < 7:
				adds(t, got, m, h, some(draw(kinds), draw(1<<20)))
			case k < 9:
				removes(t, got, m, h, draw(kinds))
			default:
				sets(t, got, m, h, some(draw(kinds), draw(1<<20)))
			}
			if step%23 == 0 {
				same(t, fmt.Sprintf("%d kinds, step %d", kinds, step), got, m)
			}
			if step%301 == 0 {
				got = got.Clone()
			}
		}
	}
	if refused[api.ErrFull] == 0 || refused[api.ErrExists] == 0 {
		t.Errorf("too few were refused to tell: %v", refused)
	}
}

// TestNoHistory: stores that came to the same entities by other ways answer the same.
func TestNoHistory(t *testing.T) {
	want := &model{}
	for i := range 40 {
		if err := want.put(handle(i, 1), rowOf(masks.Mask(i%7), i)); err != nil {
			t.Fatal(err)
		}
	}
	for way := range 6 {
		draw := drawer(uint64(way))
		got := tables.New()
		list := slices.Clone(want.list)
		for i := range list {
			k := i + draw(len(list)-i)
			list[i], list[k] = list[k], list[i]
		}
		for i := range 20 {
			if err := got.Put(handle(i, 0), rowOf(masks.Mask(i%9), i)); err != nil {
				t.Fatal(err)
			}
		}
		for _, e := range list {
			if err := got.Put(e.Handle, nil); err != nil {
				t.Fatal(err)
			}
		}
		for i := range 20 {
			if _, err := got.Take(handle(i, 0)); err != nil {
				t.Fatal(err)
			}
		}
		for kind := range kindsInAll {
			for _, e := range list {
				for _, v := range e.Values {
					if v.Kind == kind && got.Add(e.Handle, v) != nil {
						t.Fatalf("Add(%v, %v) is refused", e.Handle, v)
					}
				}
			}
		}
		same(t, fmt.Sprint("way ", way), got, want)
	}
}
