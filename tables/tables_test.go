package tables_test

import (
	"fmt"
	"math"
	"slices"
	"testing"

	"paddock/api"
	"paddock/masks"
	"paddock/tables"
)

func TestExample(t *testing.T) {
	s := tables.New()
	if err := s.Put(handle(0, 1), []api.Value{value(api.Position, 0, 0)}); err != nil {
		t.Fatalf("Put: %v", err)
	}
	if err := s.Add(handle(0, 1), value(api.Extent, 0, 0)); err != nil {
		t.Fatalf("Add: %v", err)
	}
	if list := s.Masks(); !slices.Equal(list, []masks.Mask{3}) {
		t.Errorf("Masks: %v", list)
	}
}

func TestNew(t *testing.T) {
	s := tables.New()
	same(t, "a new store", s, &model{})
	if s.Has(api.Handle{}) || len(s.Masks()) > 0 || len(s.In(0)) > 0 {
		t.Errorf("a new store has something: %v, %v", s.Masks(), s.In(0))
	}
}

// TestByHand holds a store to what is written down.
func TestByHand(t *testing.T) {
	s := tables.New()
	holds := func(when string, err, want error, all []masks.Mask, ins ...[]api.Handle) {
		t.Helper()
		if err != want {
			t.Fatalf("%s: %v; asked is %v", when, err, want)
		}
		if list := s.Masks(); !slices.Equal(list, all) {
			t.Fatalf("%s: Masks: %v; asked is %v", when, list, all)
		}
		n := 0
		for i, in := range ins {
			if list := s.In(all[i]); !slices.Equal(list, in) {
				t.Fatalf("%s: In(%d): %v; asked is %v", when, all[i], list, in)
			}
			n += len(in)
		}
		if s.Len() != n {
			t.Fatalf("%s: Len: %d; asked is %d", when, s.Len(), n)
		}
	}
	hs := func(indices ...int) []api.Handle {
		var list []api.Handle
		for _, i := range indices {
			list = append(list, handle(i, 1))
		}
		return list
	}
	at := value(api.Position, 3, 4)
	for _, i := range []int{7, 2, 9, 4} {
		if err := s.Put(handle(i, 1), []api.Value{at}); err != nil {
			t.Fatalf("Put: %v", err)
		}
	}
	holds("four", nil, nil, []masks.Mask{1}, hs(2, 4, 7, 9))
	holds("Put once more", s.Put(handle(2, 1), []api.Value{at}), api.ErrExists, []masks.Mask{1}, hs(2, 4, 7, 9))
	holds("Add", s.Add(handle(7, 1), value(api.Team, 5, 0)), nil, []masks.Mask{1, 17}, hs(2, 4, 9), hs(7))
	holds("Add once more", s.Add(handle(7, 1), value(api.Team, 6, 0)), api.ErrExists, []masks.Mask{1, 17}, hs(2, 4, 9), hs(7))
	if v, err := s.Get(handle(7, 1), api.Team); v != value(api.Team, 5, 0) || err != nil {
		t.Fatalf("Get: %v, %v", v, err)
	}
	holds("Add of the other", s.Add(handle(2, 1), value(api.Team, 8, 0)), nil, []masks.Mask{1, 17}, hs(4, 9), hs(2, 7))
	holds("Remove", s.Remove(handle(7, 1), api.Position), nil, []masks.Mask{1, 16, 17}, hs(4, 9), hs(7), hs(2))
	holds("Remove once more", s.Remove(handle(7, 1), api.Position), api.ErrKind, []masks.Mask{1, 16, 17}, hs(4, 9), hs(7), hs(2))
	holds("Remove of the last", s.Remove(handle(7, 1), api.Team), nil, []masks.Mask{0, 1, 17}, hs(7), hs(4, 9), hs(2))
	holds("Set", s.Set(handle(2, 1), value(api.Team, 255, 0)), nil, []masks.Mask{0, 1, 17}, hs(7), hs(4, 9), hs(2))
	e, err := s.Take(handle(2, 1))
	if !equal(e, api.Entity{Handle: handle(2, 1), Values: []api.Value{at, value(api.Team, 255, 0)}}) {
		t.Fatalf("Take: %v", e)
	}
	holds("Take", err, nil, []masks.Mask{0, 1}, hs(7), hs(4, 9))
	e, err = s.Take(handle(2, 1))
	if !equal(e, api.Entity{}) {
		t.Fatalf("Take: %v", e)
	}
	holds("Take once more", err, api.ErrNone, []masks.Mask{0, 1}, hs(7), hs(4, 9))
	holds("Put of no components", s.Put(handle(2, 1), nil), nil, []masks.Mask{0, 1}, hs(2, 7), hs(4, 9))
}

// TestAllMasks: an entity of each of the 1024 masks; of each each kind added or removed.
func TestAllMasks(t *testing.T) {
	for mask := range masks.Mask(1 << kindsInAll) {
		got, m := of(t, mask, mask^1, mask)
		for kind := range kindsInAll {
			adds(t, got, m, handle(0, 1), some(kind, 70))
			removes(t, got, m, handle(2, 1), kind)
			sets(t, got, m, handle(1, 1), some(kind, 90))
		}
		same(t, fmt.Sprint("all kinds added and removed, of mask ", mask), got, m)
		if list := got.In(1023); !slices.Contains(list, handle(0, 1)) {
			t.Fatalf("In(1023): %v", list)
		}
		if list := got.In(0); !slices.Contains(list, handle(2, 1)) {
			t.Fatalf("In(0): %v", list)
		}
		for kind := kindsInAll - 1; kind >= 0; kind-- {
			removes(t, got, m, handle(0, 1), kind)
			adds(t, got, m, handle(2, 1), some(kind, 110))
		}
		same(t, fmt.Sprint("and back, of mask ", mask), got, m)
		for i := range 3 {
			takes(t, got, m, handle(i, 1))
		}
		same(t, fmt.Sprint("all taken, of mask ", mask), got, m)
	}
}

// TestPutOfWrongRows: rows of a component that isn't right, and rows that don't rise.
func TestPutOfWrongRows(t *testing.T) {
	for _, mask := range []masks.Mask{0, 1, 3, 8, 513, 1 + 4 + 64, 1023} {
		got, m := of(t, mask, mask)
		wrong := func(row []api.Value) {
			t.Helper()
			if err := got.Put(handle(5, 1), row); err != api.ErrForm {
				t.Fatalf("Put(%v): %v", row, err)
			}
			if err := got.Put(handle(0, 1), row); err != api.ErrExists {
				t.Fatalf("Put(%v) once more: %v", row, err)
			}
		}
		row := rowOf(mask, 50)
		for i, v := range row {
			for _, bad := range edgeValues(v.Kind) {
				if fault(bad) != nil {
					wrong(slices.Concat(row[:i], []api.Value{bad}, row[i+1:]))
				}
			}
			wrong(slices.Concat(row[:i], []api.Value{v}, row[i:]))
			if i > 0 {
				wrong(slices.Concat(row[:i-1], []api.Value{v, row[i-1]}, row[i+1:]))
			}
		}
		for _, kind := range append(strangeNumbers(), kindsInAll, 63, 64, 65) {
			wrong(append(slices.Clone(row), value(kind, 0, 0)))
			wrong(slices.Concat([]api.Value{value(kind, 0, 0)}, row))
		}
		wrong(append(slices.Clone(row), make([]api.Value, 1000)...))
		same(t, fmt.Sprint("after wrong rows, mask ", mask), got, m)
		puts(t, got, m, handle(5, 1), row)
		same(t, fmt.Sprint("after a right row, mask ", mask), got, m)
	}
}

// TestPutAtAllEdges: rows with all numbers at the ends of the ranges.
func TestPutAtAllEdges(t *testing.T) {
	for kind := range kindsInAll {
		got, m := of(t, 1)
		for i, v := range edgeValues(kind) {
			puts(t, got, m, handle(i+1, 1), []api.Value{v})
		}
		same(t, fmt.Sprint("after puts of kind ", kind), got, m)
	}
}

// TestSetAndAddAllEdges: of each kind all numbers at the ends of its ranges, at entities that have all kinds, that kind alone, and all others.
func TestSetAndAddAllEdges(t *testing.T) {
	for kind := range kindsInAll {
		for _, mask := range []masks.Mask{1023, 1 << kind, 1023 - 1<<kind} {
			got, m := of(t, mask, mask, mask)
			for _, v := range edgeValues(kind) {
				for i := range 4 {
					sets(t, got, m, handle(i, 1), v)
				}
				same(t, fmt.Sprint("Set of ", v), got, m)
				twin, k := got.Clone(), m.clone()
				adds(t, twin, k, handle(1, 1), v)
				same(t, fmt.Sprint("Add of ", v), twin, k)
			}
		}
	}
}

// TestErrorsInOrder: of several errors the one that is named first.
func TestErrorsInOrder(t *testing.T) {
	got, m := of(t, 1+8, 1+8)
	here, gone := handle(1, 1), handle(1, 2)
	for _, c := range []struct {
		name      string
		err, want error
	}{
		{"Put of a wrong row, there", got.Put(here, []api.Value{value(99, 0, 0)}), api.ErrExists},
		{"Put of a right row, there", got.Put(here, nil), api.ErrExists},
		{"Put of a wrong row", got.Put(gone, []api.Value{value(0, 1048577, 0)}), api.ErrForm},
		{"Add of no kind, not there", got.Add(gone, value(10, 0, 0)), api.ErrNone},
		{"Add of a wrong one, not there", got.Add(gone, value(1, -1, 0)), api.ErrNone},
		{"Add of a right one, not there", got.Add(gone, value(1, 1, 0)), api.ErrNone},
		{"Add of no kind", got.Add(here, value(10, 0, 0)), api.ErrKind},
		{"Add of no kind", got.Add(here, value(-1, 0, 0)), api.ErrKind},
		{"Add of a wrong one that it has", got.Add(here, value(3, 1, 0)), api.ErrRange},
		{"Add of a wrong one", got.Add(here, value(1, -1, 0)), api.ErrRange},
		{"Add of one that it has", got.Add(here, value(3, 0, 0)), api.ErrExists},
		{"Remove of no kind, not there", got.Remove(gone, 10), api.ErrNone},
		{"Remove, not there", got.Remove(gone, 0), api.ErrNone},
		{"Remove of no kind", got.Remove(here, 10), api.ErrKind},
		{"Remove of no kind", got.Remove(here, -1), api.ErrKind},
		{"Remove of one that it hasn't", got.Remove(here, 1), api.ErrKind},
		{"Set of no kind, not there", got.Set(gone, value(10, 0, 0)), api.ErrNone},
		{"Set, not there", got.Set(gone, value(0, 0, 0)), api.ErrNone},
		{"Set of a wrong one, not there", got.Set(gone, value(0, 1048577, 0)), api.ErrNone},
		{"Set of no kind", got.Set(here, value(10, 0, 0)), api.ErrKind},
		{"Set of a wrong one that it hasn't", got.Set(here, value(1, -1, 0)), api.ErrKind},
		{"Set of one that it hasn't", got.Set(here, value(1, 1, 0)), api.ErrKind},
		{"Set of a wrong one", got.Set(here, value(0, 0, -1048577)), api.ErrRange},
	} {
		if c.err != c.want {
			t.Errorf("%s: %v; asked is %v", c.name, c.err, c.want)
		}
	}
	for _, c := range []struct {
		h    api.Handle
		kind int
		want error
	}{{gone, 0, api.ErrNone}, {gone, 10, api.ErrNone}, {here, 10, api.ErrKind}, {here, -1, api.ErrKind}, {here, 1, api.ErrKind}, {here, 3, nil}} {
		if v, err := got.Get(c.h, c.kind); err != c.want || err != nil && v != (api.Value{}) {
			t.Errorf("Get(%v, %d): %v, %v; asked is %v", c.h, c.kind, v, err, c.want)
		}
	}
	same(t, "after errors", got, m)
}

// TestAnyHandle: a store asks nothing of a handle, but that it is another one than those that it has.
func TestAnyHandle(t *testing.T) {
	got, m := tables.New(), &model{}
	all := append(strangeNumbers(), 0, 1, 127, 128)
	for i, n := range all {
		for _, h := range []api.Handle{handle(n, 1), handle(1, n), handle(n, -n)} {
			puts(t, got, m, h, rowOf(masks.Mask(i%3), i))
			puts(t, got, m, h, rowOf(1, i))
		}
	}
	same(t, "any handles", got, m)
	for _, n := range all {
		adds(t, got, m, handle(n, 1), some(1, 9))
		removes(t, got, m, handle(1, n), 0)
		sets(t, got, m, handle(n, -n), some(0, 9))
		takes(t, got, m, handle(n, 1))
	}
	same(t, "any handles, changed", got, m)
}

// TestStrangeNumbers: handles and kinds that aren't there.
func TestStrangeNumbers(t *testing.T) {
	got, m := of(t, 0, 1, 3, 1023, 3)
	for _, n := range append(strangeNumbers(), 5, 10, 63, 64, 128) {
		for _, h := range []api.Handle{handle(n, 1), handle(1, n), handle(n, n)} {
			asks(t, "a strange handle", got, m, h)
			takes(t, got, m, h)
			adds(t, got, m, h, value(2, 0, 0))
			removes(t, got, m, h, 0)
			sets(t, got, m, h, value(0, 0, 0))
		}
		for i := range 5 {
			gets(t, "a strange kind", got, m, handle(i, 1), n)
			removes(t, got, m, handle(i, 1), n)
			adds(t, got, m, handle(i, 1), value(n, 0, 0))
			sets(t, got, m, handle(i, 1), value(n, 0, 0))
		}
	}
	same(t, "after strange numbers", got, m)
	for bit := kindsInAll; bit < 64; bit++ {
		for _, mask := range []masks.Mask{1 << bit, 1<<bit + 3, math.MaxUint64 << bit} {
			if list := got.In(mask); len(list) > 0 {
				t.Errorf("In(%d): %v", mask, list)
			}
		}
	}
}

// TestTakeOfEach: whichever goes of a table, the others are as they were.
func TestTakeOfEach(t *testing.T) {
	for n := 1; n < 8; n++ {
		for i := range n {
			for k := range n {
				got, m := of(t, slices.Repeat([]masks.Mask{3}, n)...)
				takes(t, got, m, handle(i, 1))
				same(t, fmt.Sprintf("%d of %d taken", i, n), got, m)
				removes(t, got, m, handle(k, 1), 1)
				same(t, fmt.Sprintf("%d of %d taken, %d moved", i, n, k), got, m)
				adds(t, got, m, handle(k, 1), some(1, 44))
				puts(t, got, m, handle(i, 1), rowOf(3, 300))
				same(t, fmt.Sprintf("%d of %d taken, %d moved, and back", i, n, k), got, m)
			}
		}
	}
}
