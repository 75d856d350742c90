package table_test

import (
	"fmt"
	"math"
	"slices"
	"testing"

	"paddock/api"
	"paddock/masks"
	"paddock/table"
)

func TestExample(t *testing.T) {
	got, err := table.New(1)
	if err != nil {
		t.Fatalf("New: %v", err)
	}
	for i, h := range []api.Handle{handle(0, 1), handle(1, 1)} {
		if place, err := got.Add(h, []api.Value{value(api.Position, 3+i, 4)}); place != i || err != nil {
			t.Fatalf("Add: %d, %v", place, err)
		}
	}
	if e, err := got.Take(0); !equal(e, api.Entity{Handle: handle(0, 1), Values: []api.Value{value(api.Position, 3, 4)}}) || err != nil {
		t.Errorf("Take: %v, %v", e, err)
	}
	if list := got.Handles(); !slices.Equal(list, []api.Handle{handle(1, 1)}) {
		t.Errorf("Handles: %v", list)
	}
}

// TestByHand holds a table of Position, Team and Custom to what is written down.
func TestByHand(t *testing.T) {
	got, err := table.New(1 + 16 + 64)
	if err != nil {
		t.Fatalf("New: %v", err)
	}
	row := func(n int) []api.Value {
		return []api.Value{value(api.Position, n, -n), value(api.Team, n, 0), value(api.Custom, 4*n, 9)}
	}
	holds := func(rows ...int) {
		t.Helper()
		if got.Len() != len(rows) || got.Mask() != 81 || len(got.Handles()) != len(rows) {
			t.Fatalf("Len: %d, Mask: %d, Handles: %v", got.Len(), got.Mask(), got.Handles())
		}
		for i, n := range rows {
			if e, err := got.Entity(i); !equal(e, api.Entity{Handle: handle(n, 1), Values: row(n)}) || err != nil {
				t.Fatalf("Entity(%d): %v, %v; asked is %d's", i, e, err, n)
			}
			if v, err := got.Get(i, api.Custom); v != value(api.Custom, 4*n, 9) || err != nil {
				t.Fatalf("Get(%d): %v, %v", i, v, err)
			}
			if h := got.Handles()[i]; h != handle(n, 1) {
				t.Fatalf("Handles: %v at %d", h, i)
			}
		}
	}
	holds()
	for i, n := range []int{10, 20, 30, 40} {
		if place, err := got.Add(handle(n, 1), row(n)); place != i || err != nil {
			t.Fatalf("Add: %d, %v", place, err)
		}
	}
	holds(10, 20, 30, 40)
	for _, c := range []struct {
		take, was int
		left      []int
	}{{1, 20, []int{10, 40, 30}}, {2, 30, []int{10, 40}}, {0, 10, []int{40}}, {0, 40, nil}} {
		if e, err := got.Take(c.take); !equal(e, api.Entity{Handle: handle(c.was, 1), Values: row(c.was)}) || err != nil {
			t.Fatalf("Take(%d): %v, %v", c.take, e, err)
		}
		holds(c.left...)
	}
	if place, err := got.Add(handle(50, 1), row(50)); place != 0 || err != nil {
		t.Fatalf("Add: %d, %v", place, err)
	}
	holds(50)
}

// TestSetByHand: just the component of one place becomes another one.
func TestSetByHand(t *testing.T) {
	got, m := of(t, 1+2, 3)
	if err := got.Set(1, value(api.Extent, 8, 9)); err != nil {
		t.Fatalf("Set: %v", err)
	}
	if v, err := got.Get(1, api.Extent); v != value(api.Extent, 8, 9) || err != nil {
		t.Errorf("Get: %v, %v", v, err)
	}
	m.set(1, value(api.Extent, 8, 9))
	same(t, "after Set", got, m)
}

func TestNewOfAllMasks(t *testing.T) {
	for mask := range masks.Mask(1 << kindsInAll) {
		got, m := of(t, mask, 0)
		adds(t, got, m, handle(3, 7), rowOf(mask, 11))
		adds(t, got, m, handle(0, 2), rowOf(mask, 400))
		same(t, "two rows", got, m)
		takes(t, got, m, 0)
		same(t, "one row", got, m)
	}
}

func TestNewOfWrongMasks(t *testing.T) {
	for bit := kindsInAll; bit < 64; bit++ {
		for _, mask := range []masks.Mask{1 << bit, 1<<bit + 1, 1<<bit + 1023, math.MaxUint64 << bit} {
			if got, err := table.New(mask); got != nil || err != api.ErrKind {
				t.Errorf("New(%d): %v, %v", mask, got, err)
			}
		}
	}
	if got, err := table.New(math.MaxUint64); got != nil || err != api.ErrKind {
		t.Errorf("New of all bits: %v, %v", got, err)
	}
}

func TestNewAnswersTablesOfTheirOwn(t *testing.T) {
	one, m := of(t, 3, 2)
	two, n := of(t, 3, 0)
	sets(t, one, m, 0, value(api.Position, 77, 77))
	adds(t, two, n, handle(9, 9), rowOf(3, 60))
	same(t, "the one", one, m)
	same(t, "the other", two, n)
}

// TestAddOfWrongRows: all rows of one component too few, one too many, one of another kind, one that isn't right; and rows that don't rise.
func TestAddOfWrongRows(t *testing.T) {
	wrong := func(got *table.Table, m *model, row []api.Value) {
		t.Helper()
		if place, err := got.Add(handle(1, 1), row); place != 0 || err != api.ErrForm {
			t.Fatalf("Add(%v) to mask %d: %d, %v", row, m.mask, place, err)
		}
		same(t, fmt.Sprint("after Add of ", row), got, m)
	}
	for _, mask := range []masks.Mask{0, 1, 2, 3, 8, 512, 513, 1 + 4 + 64, 1022, 1023} {
		for _, n := range []int{0, 1, 3} {
			got, m := of(t, mask, n)
			row := rowOf(mask, 50)
			for kind := range kindsInAll {
				wrong(got, m, rowOf(mask^1<<kind, 50))
			}
			for i, v := range row {
				r := ranges()[v.Kind]
				for _, bad := range []api.Value{
					value(v.Kind, r[0]-1, v.B), value(v.Kind, r[1]+1, v.B), value(v.Kind, v.A, r[2]-1), value(v.Kind, v.A, r[3]+1),
					value(v.Kind, math.MinInt, v.B), value(v.Kind, v.A, math.MaxInt), value(v.Kind+64, v.A, v.B), value(v.Kind-64, v.A, v.B),
				} {
					wrong(got, m, slices.Concat(row[:i], []api.Value{bad}, row[i+1:]))
				}
				wrong(got, m, slices.Concat(row[:i], []api.Value{v}, row[i:]))
				if i > 0 {
					wrong(got, m, slices.Concat(row[:i-1], []api.Value{v, row[i-1]}, row[i+1:]))
				}
			}
			for _, kind := range append(strangeNumbers(), kindsInAll, 63, 64) {
				wrong(got, m, append(slices.Clone(row), value(kind, 0, 0)))
				wrong(got, m, slices.Concat([]api.Value{value(kind, 0, 0)}, row))
			}
			wrong(got, m, append(slices.Clone(row), make([]api.Value, 1000)...))
		}
	}
}

// TestAddOfAnyHandle: a table asks nothing of a handle, so one may stand there twice, too.
func TestAddOfAnyHandle(t *testing.T) {
	got, m := of(t, 1, 0)
	for _, index := range append(strangeNumbers(), 0, 1, 127) {
		adds(t, got, m, handle(index, -index), rowOf(1, 7))
		adds(t, got, m, handle(index, 1), rowOf(1, 8))
	}
	same(t, "any handles", got, m)
}

// TestFull: MaxEntities rows, and no more; ErrForm comes ahead of ErrFull.
func TestFull(t *testing.T) {
	for _, mask := range []masks.Mask{0, 1, 8, 513, 1023} {
		got, m := of(t, mask, mostRows)
		for range 3 {
			if place, err := got.Add(handle(5, 5), rowOf(mask, 9)); place != 0 || err != api.ErrFull {
				t.Fatalf("Add to a full table of mask %d: %d, %v", mask, place, err)
			}
			if place, err := got.Add(handle(5, 5), rowOf(mask^1, 9)); place != 0 || err != api.ErrForm {
				t.Fatalf("Add of a wrong row to a full table of mask %d: %d, %v", mask, place, err)
			}
			same(t, "a full table", got, m)
			full := got.Clone()
			if _, err := full.Add(handle(5, 5), rowOf(mask, 9)); err != api.ErrFull {
				t.Fatalf("Add to a full table's clone: %v", err)
			}
			takes(t, got, m, 17)
			adds(t, got, m, handle(200, 3), rowOf(mask, 900))
			same(t, "full again", got, m)
		}
		for got.Len() > 0 {
			takes(t, got, m, got.Len()/3)
		}
		same(t, "emptied", got, m)
	}
}

func TestTakeOfEachPlace(t *testing.T) {
	for _, mask := range []masks.Mask{0, 1, 1 + 2 + 8, 1023} {
		for n := 1; n < 12; n++ {
			for i := range n {
				got, m := of(t, mask, n)
				takes(t, got, m, i)
				same(t, fmt.Sprintf("Take(%d) of %d", i, n), got, m)
			}
		}
	}
}

// TestSetAllEdges: of each kind all numbers at the ends of its ranges, at a table that has all kinds, and at those that have that kind alone or all others.
func TestSetAllEdges(t *testing.T) {
	for kind, r := range ranges() {
		for _, mask := range []masks.Mask{1023, 1 << kind, 1023 - 1<<kind} {
			got, m := of(t, mask, 3)
			for _, a := range []int{math.MinInt, r[0] - 1, r[0], r[1], r[1] + 1, math.MaxInt} {
				for _, b := range []int{math.MinInt, r[2] - 1, r[2], r[3], r[3] + 1, math.MaxInt} {
					for i := -1; i <= 3; i++ {
						sets(t, got, m, i, value(kind, a, b))
					}
				}
			}
			same(t, fmt.Sprint("after sets of kind ", kind), got, m)
		}
	}
}

// TestErrorsInOrder: a place that isn't there comes ahead of a kind that isn't there, and that ahead of a component that isn't right.
func TestErrorsInOrder(t *testing.T) {
	got, m := of(t, 1+8, 2)
	for _, c := range []struct {
		i    int
		v    api.Value
		want error
	}{
		{2, value(api.Extent, -1, 0), api.ErrRange},
		{-1, value(99, 0, 0), api.ErrRange},
		{2, value(api.Position, 0, 0), api.ErrRange},
		{1, value(api.Extent, -1, 0), api.ErrKind},
		{1, value(api.Extent, 1, 1), api.ErrKind},
		{1, value(99, math.MaxInt, 0), api.ErrKind},
		{1, value(-1, 0, 0), api.ErrKind},
		{1, value(api.Obstacle, 1, 0), api.ErrRange},
		{1, value(api.Position, 1048577, 0), api.ErrRange},
		{1, value(api.Position, 1048576, 0), nil},
	} {
		if err := got.Set(c.i, c.v); err != c.want {
			t.Errorf("Set(%d, %v): %v; asked is %v", c.i, c.v, err, c.want)
		}
	}
	m.set(1, value(api.Position, 1048576, 0))
	same(t, "after sets", got, m)
	for _, c := range []struct {
		i, kind int
		want    error
	}{{2, 99, api.ErrRange}, {-1, -1, api.ErrRange}, {2, 0, api.ErrRange}, {0, 1, api.ErrKind}, {0, 99, api.ErrKind}, {0, -1, api.ErrKind}, {0, 3, nil}} {
		if v, err := got.Get(c.i, c.kind); err != c.want || err != nil && v != (api.Value{}) {
			t.Errorf("Get(%d, %d): %v, %v; asked is %v", c.i, c.kind, v, err, c.want)
		}
	}
}

func TestStrangePlacesAndKinds(t *testing.T) {
	for _, n := range []int{0, 1, 5} {
		got, m := of(t, 1+4+512, n)
		for _, i := range append(strangeNumbers(), n) {
			takes(t, got, m, i)
			sets(t, got, m, i, value(api.Position, 1, 1))
			gets(t, "a strange place", got, m, i, api.Position)
			gets(t, "a strange kind", got, m, 0, i)
			sets(t, got, m, 0, value(i, 0, 0))
			if e, err := got.Entity(i); !equal(e, api.Entity{}) || err != api.ErrRange {
				t.Errorf("Entity(%d): %v, %v", i, e, err)
			}
			if h, err := got.Handle(i); h != (api.Handle{}) || err != api.ErrRange {
				t.Errorf("Handle(%d): %v, %v", i, h, err)
			}
		}
		same(t, "after strange calls", got, m)
	}
}
