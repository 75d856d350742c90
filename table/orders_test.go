package table_test

import (
	"fmt"
	"slices"
	"testing"

	"paddock/api"
	"paddock/masks"
	"paddock/table"
)

// call is a call that changes a table, or is refused.
type call struct {
	name string
	do   func(t *testing.T, got *table.Table, m *model)
}

// calls are the calls of a short row, with numbers of their own at each step.
func calls(mask masks.Mask, step int) []call {
	add := func(name string, row []api.Value) call {
		return call{name, func(t *testing.T, got *table.Table, m *model) { adds(t, got, m, handle(step, 1), row) }}
	}
	all := []call{
		add("Add;", rowOf(mask, 10*step)),
		add("Add of another mask;", rowOf(mask^2, 10*step)),
	}
	for i := -1; i < 3; i++ {
		all = append(all,
			call{fmt.Sprintf("Take %d;", i), func(t *testing.T, got *table.Table, m *model) { takes(t, got, m, i) }},
			call{fmt.Sprintf("Set %d;", i), func(t *testing.T, got *table.Table, m *model) { sets(t, got, m, i, value(6, step, -step)) }},
		)
	}
	return all
}

// TestAllOrders goes through all short rows of calls, each on a new table.
func TestAllOrders(t *testing.T) {
	const steps = 4
	for _, mask := range []masks.Mask{0, 64, 1 + 64} {
		var row []call
		var try func(names string)
		try = func(names string) {
			got, err := table.New(mask)
			if err != nil {
				t.Fatalf("New: %v", err)
			}
			m := &model{mask: mask}
			for _, c := range row {
				c.do(t, got, m)
			}
			same(t, names, got, m)
			if len(row) == steps {
				return
			}
			for _, c := range calls(mask, len(row)+1) {
				row = append(row, c)
				try(names + c.name)
				row = row[:len(row)-1]
			}
		}
		try(fmt.Sprintf("mask %d: ", mask))
	}
}

// TestLongOrders fills and empties tables to and fro, by a fixed rule, and goes on with a clone now and then.
func TestLongOrders(t *testing.T) {
	for _, mask := range []masks.Mask{0, 1, 2 + 8, 1 + 2 + 64, 1023} {
		rule := uint64(mask) + 5
		draw := func(n int) int {
			rule = rule*6364136223846793005 + 1442695040888963407
			return int((rule >> 33) % uint64(n))
		}
		got, m := of(t, mask, 0)
		for step := range 3000 {
			n := len(m.rows)
			grows := step/400%2 == 0
			switch k := draw(8); {
			case k < 4 && grows || k < 1:
				adds(t, got, m, handle(draw(200), step), rowOf(mask, draw(1<<20)))
			case k < 5:
				sets(t, got, m, draw(n+2)-1, some(draw(kindsInAll), draw(1<<20)))
			case k < 6:
				takes(t, got, m, n-1)
			default:
				takes(t, got, m, draw(n+2)-1)
			}
			if step%11 == 0 {
				same(t, fmt.Sprintf("mask %d, step %d", mask, step), got, m)
			}
			if step%301 == 0 {
				got = got.Clone()
			}
		}
	}
}

// TestHandlesStandByPlaces: handles are told by places, not in their own order, and as often as they were added.
func TestHandlesStandByPlaces(t *testing.T) {
	got, m := of(t, 4, 0)
	want := []api.Handle{handle(9, 1), handle(2, 8), handle(2, 3), handle(9, 1), handle(0, 0)}
	for _, h := range want {
		adds(t, got, m, h, rowOf(4, 3))
	}
	if list := got.Handles(); !slices.Equal(list, want) {
		t.Fatalf("Handles: %v", list)
	}
	same(t, "handles in no order", got, m)
}
