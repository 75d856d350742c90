package tables_test

import (
	"slices"
	"testing"

	"paddock/api"
	"paddock/masks"
	"paddock/tables"
)

// same holds all that a store answers without a change against the model: of all of its handles and masks, and of some that it hasn't.
func same(t *testing.T, when string, got *tables.Store, m *model) {
	t.Helper()
	all := masksOf(m.list)
	if got.Len() != len(m.list) {
		t.Fatalf("%s: Len: %d; asked is %d", when, got.Len(), len(m.list))
	}
	if list := got.Masks(); !slices.Equal(list, all) {
		t.Fatalf("%s: Masks: %v; asked is %v", when, list, all)
	}
	for _, mask := range append(all, 0, 1, 3, 1023, 1024, 1<<63) {
		if list := got.In(mask); !slices.Equal(list, m.in(mask)) {
			t.Fatalf("%s: In(%d): %v; asked is %v", when, mask, list, m.in(mask))
		}
	}
	for _, e := range m.list {
		asks(t, when, got, m, e.Handle)
		asks(t, when, got, m, handle(e.Handle.Index, e.Handle.Gen+1))
		asks(t, when, got, m, handle(e.Handle.Index+1, e.Handle.Gen))
	}
	asks(t, when, got, m, handle(0, 0))
	asks(t, when, got, m, handle(-1, 1))
}

// asks holds what is answered of a handle against the model.
func asks(t *testing.T, when string, got *tables.Store, m *model, h api.Handle) {
	t.Helper()
	want, wantErr := m.entity(h)
	if e, err := got.Entity(h); !equal(e, want) || err != wantErr {
		t.Fatalf("%s: Entity(%v): %v, %v; asked is %v, %v", when, h, e, err, want, wantErr)
	}
	if has := got.Has(h); has != (wantErr == nil) {
		t.Fatalf("%s: Has(%v): %v", when, h, has)
	}
	for kind := -1; kind <= kindsInAll; kind++ {
		gets(t, when, got, m, h, kind)
	}
}

// gets holds a Get against the model's.
func gets(t *testing.T, when string, got *tables.Store, m *model, h api.Handle, kind int) {
	t.Helper()
	want, wantErr := m.get(h, kind)
	if v, err := got.Get(h, kind); v != want || err != wantErr {
		t.Fatalf("%s: Get(%v, %d): %v, %v; asked is %v, %v", when, h, kind, v, err, want, wantErr)
	}
}

// puts puts an entity into both, and holds one against the other.
func puts(t *testing.T, got *tables.Store, m *model, h api.Handle, row []api.Value) {
	t.Helper()
	n := len(m.list)
	want := m.put(h, row)
	if err := got.Put(h, row); err != want {
		t.Fatalf("Put(%v, %v) to %d: %v; asked is %v", h, row, n, err, want)
	}
}

// takes takes an entity out of both, and holds one against the other.
func takes(t *testing.T, got *tables.Store, m *model, h api.Handle) {
	t.Helper()
	want, wantErr := m.take(h)
	if e, err := got.Take(h); !equal(e, want) || err != wantErr {
		t.Fatalf("Take(%v): %v, %v; asked is %v, %v", h, e, err, want, wantErr)
	}
}

// adds adds a component in both, and holds one against the other.
func adds(t *testing.T, got *tables.Store, m *model, h api.Handle, v api.Value) {
	t.Helper()
	was, _ := m.entity(h)
	want := m.add(h, v)
	if err := got.Add(h, v); err != want {
		t.Fatalf("Add(%v, %v) of %v: %v; asked is %v", h, v, was, err, want)
	}
}

// removes removes a component of both, and holds one against the other.
func removes(t *testing.T, got *tables.Store, m *model, h api.Handle, kind int) {
	t.Helper()
	was, _ := m.entity(h)
	want := m.remove(h, kind)
	if err := got.Remove(h, kind); err != want {
		t.Fatalf("Remove(%v, %d) of %v: %v; asked is %v", h, kind, was, err, want)
	}
}

// sets sets a component of both, and holds one against the other.
func sets(t *testing.T, got *tables.Store, m *model, h api.Handle, v api.Value) {
	t.Helper()
	was, _ := m.entity(h)
	want := m.set(h, v)
	if err := got.Set(h, v); err != want {
		t.Fatalf("Set(%v, %v) of %v: %v; asked is %v", h, v, was, err, want)
	}
}

// of is a store with one entity of each of these masks, by handles (0, 1), (1, 1) and so on, and its model.
func of(t *testing.T, all ...masks.Mask) (*tables.Store, *model) {
	t.Helper()
	got, m := tables.New(), &model{}
	for i, mask := range all {
		puts(t, got, m, handle(i, 1), rowOf(mask, 5*i))
	}
	if got.Len() != len(all) {
		t.Fatalf("Len: %d of %v", got.Len(), all)
	}
	return got, m
}
