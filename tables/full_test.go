package tables_test

import (
	"fmt"
	"slices"
	"testing"

	"paddock/api"
	"paddock/masks"
	"paddock/tables"
)

// upTo are the masks from first on, n of them.
func upTo(first masks.Mask, n int) []masks.Mask {
	var all []masks.Mask
	for i := range n {
		all = append(all, first+masks.Mask(i))
	}
	return all
}

// TestFullOfEntities: MaxEntities entities, and no more, in one table or in several; what doesn't make more of them goes on.
func TestFullOfEntities(t *testing.T) {
	for _, each := range [][]masks.Mask{{0}, {1}, {1023}, {1, 2, 3, 512}, upTo(0, mostTables), upTo(900, mostTables)} {
		var all []masks.Mask
		for i := range mostEntities {
			all = append(all, each[i%len(each)])
		}
		got, m := of(t, all...)
		same(t, "a full store", got, m)
		row := rowOf(each[0], 9)
		for _, c := range []struct {
			name string
			h    api.Handle
			row  []api.Value
			want error
		}{
			{"one more", handle(128, 1), row, api.ErrFull},
			{"one more of another generation", handle(0, 2), row, api.ErrFull},
			{"a wrong row", handle(128, 1), []api.Value{value(3, 1, 0)}, api.ErrForm},
			{"one that is there", handle(0, 1), row, api.ErrExists},
			{"one that is there, by a wrong row", handle(127, 1), []api.Value{value(3, 1, 0)}, api.ErrExists},
		} {
			if err := got.Put(c.h, c.row); err != c.want {
				t.Fatalf("Put of %s to a full store of %v: %v; asked is %v", c.name, each, err, c.want)
			}
			if err := got.Clone().Put(c.h, c.row); err != c.want {
				t.Fatalf("Put of %s to a full store's clone, of %v: %v; asked is %v", c.name, each, err, c.want)
			}
		}
		same(t, "a full store, after what was refused", got, m)
		for i := range mostEntities {
			kind := i % kindsInAll
			sets(t, got, m, handle(i, 1), some(kind, 3000+i))
			adds(t, got, m, handle(i, 1), some(kind, 5000+i))
			removes(t, got, m, handle(i, 1), (kind+3)%kindsInAll)
		}
		same(t, "a full store, changed", got, m)
		takes(t, got, m, handle(64, 1))
		puts(t, got, m, handle(64, 2), row)
		puts(t, got, m, handle(64, 3), row)
		same(t, "full again", got, m)
		for i := range mostEntities {
			takes(t, got, m, handle(i*37%mostEntities, 1))
		}
		same(t, "emptied", got, m)
	}
}

// TestAllToAnotherTable: a full table's entities go to another one and back, one by one.
func TestAllToAnotherTable(t *testing.T) {
	got, m := of(t, slices.Repeat([]masks.Mask{5}, mostEntities)...)
	for i := range mostEntities {
		removes(t, got, m, handle(i*51%mostEntities, 1), 2)
	}
	same(t, "all moved", got, m)
	for i := range mostEntities {
		adds(t, got, m, handle(i*77%mostEntities, 1), some(2, i))
	}
	same(t, "all moved back", got, m)
	if list := got.Masks(); !slices.Equal(list, []masks.Mask{5}) {
		t.Fatalf("Masks: %v", list)
	}
}

// TestFullOfTables: MaxTables masks, and no more; entities of those that are there come all the same.
func TestFullOfTables(t *testing.T) {
	for _, first := range []masks.Mask{0, 1, 100, 992} {
		all := upTo(first, mostTables)
		got, m := of(t, all...)
		same(t, "all tables", got, m)
		for i, mask := range all {
			puts(t, got, m, handle(i, 2), rowOf(mask, 400+i))
		}
		same(t, "all tables, of two each", got, m)
		for mask := range masks.Mask(1 << kindsInAll) {
			if slices.Contains(all, mask) {
				continue
			}
			if err := got.Put(handle(99, 1), rowOf(mask, 3)); err != api.ErrFull {
				t.Fatalf("Put of mask %d: %v", mask, err)
			}
		}
		if err := got.Put(handle(99, 1), []api.Value{value(1, -1, 0)}); err != api.ErrForm {
			t.Fatalf("Put of a wrong row: %v", err)
		}
		if err := got.Put(handle(3, 2), rowOf(first^64, 3)); err != api.ErrExists {
			t.Fatalf("Put of one that is there: %v", err)
		}
		same(t, "all tables, after what was refused", got, m)
		takes(t, got, m, handle(7, 1))
		puts(t, got, m, handle(99, 1), rowOf(first^64, 3))
		same(t, "all tables, one of a single entity", got, m)
		takes(t, got, m, handle(7, 2))
		puts(t, got, m, handle(99, 1), rowOf(first^64, 3))
		same(t, "another one in the place of one that is gone", got, m)
		if !got.Has(handle(99, 1)) || got.Len() != 2*mostTables-1 {
			t.Fatalf("Len: %d", got.Len())
		}
	}
}

// TestTableThatIsLeftEmpty: with MaxTables tables an entity goes to a new one just if it is the only one of its own.
func TestTableThatIsLeftEmpty(t *testing.T) {
	one, two := handle(31, 1), handle(31, 2)
	for _, c := range []struct {
		name string
		do   func(s *tables.Store, h api.Handle) error
		mask masks.Mask
	}{
		{"Add", func(s *tables.Store, h api.Handle) error { return s.Add(h, value(6, 1, 2)) }, 32 + 31 + 64},
		{"Remove", func(s *tables.Store, h api.Handle) error { return s.Remove(h, 0) }, 32 + 30},
	} {
		got, m := of(t, append(upTo(0, mostTables-1), 32+31)...)
		puts(t, got, m, two, rowOf(32+31, 80))
		for _, h := range []api.Handle{one, two} {
			if err := c.do(got, h); err != api.ErrFull {
				t.Fatalf("%s of one of two: %v", c.name, err)
			}
			same(t, c.name+" of one of two", got, m)
		}
		takes(t, got, m, two)
		if err := c.do(got, one); err != nil {
			t.Fatalf("%s of the only one: %v", c.name, err)
		}
		if list := got.In(c.mask); !slices.Equal(list, []api.Handle{one}) || len(got.Masks()) != mostTables || len(got.In(32+31)) > 0 {
			t.Fatalf("%s of the only one: In: %v, Masks: %v", c.name, list, got.Masks())
		}
		if err := got.Put(two, rowOf(32+31, 80)); err != api.ErrFull {
			t.Fatalf("%s of the only one, and Put: %v", c.name, err)
		}
	}
}

// TestMovesWithAllTables: all that a component added or removed can be, with MaxTables tables and with one less.
func TestMovesWithAllTables(t *testing.T) {
	for _, n := range []int{mostTables - 1, mostTables} {
		for _, twice := range []bool{false, true} {
			for i := range n {
				for kind := range kindsInAll {
					got, m := of(t, upTo(0, n)...)
					if twice {
						puts(t, got, m, handle(i, 2), rowOf(masks.Mask(i), 70))
					}
					adds(t, got, m, handle(i, 1), some(kind, 60))
					removes(t, got, m, handle(i, 1), kind)
					adds(t, got, m, handle(i, 1), some(9-kind, 60))
					removes(t, got, m, handle(n-1-i, 1), kind)
					if kind == i%kindsInAll {
						same(t, fmt.Sprintf("%d tables, entity %d, kind %d", n, i, kind), got, m)
					}
					if list := got.Masks(); !slices.Equal(list, masksOf(m.list)) {
						t.Fatalf("%d tables, entity %d, kind %d: Masks: %v", n, i, kind, list)
					}
				}
			}
		}
	}
}

// TestErrorsAheadOfFull: with MaxTables tables, too, the errors named first come first.
func TestErrorsAheadOfFull(t *testing.T) {
	got, m := of(t, upTo(0, mostTables)...)
	for i := range mostTables {
		puts(t, got, m, handle(i, 2), rowOf(masks.Mask(i), 30))
	}
	here, gone := handle(31, 1), handle(32, 1)
	for _, c := range []struct {
		name      string
		err, want error
	}{
		{"Add, not there", got.Add(gone, value(6, 0, 0)), api.ErrNone},
		{"Add of no kind", got.Add(here, value(10, 0, 0)), api.ErrKind},
		{"Add of a wrong one", got.Add(here, value(6, 4194305, 0)), api.ErrRange},
		{"Add of one that it has", got.Add(here, value(2, 0, 0)), api.ErrExists},
		{"Add", got.Add(here, value(6, 4194304, 0)), api.ErrFull},
		{"Add within the tables", got.Clone().Add(handle(30, 1), value(0, 0, 0)), nil},
		{"Remove, not there", got.Remove(gone, 2), api.ErrNone},
		{"Remove of one that it hasn't", got.Remove(here, 6), api.ErrKind},
		{"Remove of no kind", got.Remove(here, 10), api.ErrKind},
		{"Remove within the tables", got.Clone().Remove(here, 2), nil},
		{"Set", got.Clone().Set(here, value(2, 0, 0)), nil},
	} {
		if c.err != c.want {
			t.Errorf("%s: %v; asked is %v", c.name, c.err, c.want)
		}
	}
	same(t, "after errors", got, m)
}
