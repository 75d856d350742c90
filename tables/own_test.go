package tables_test

import (
	"slices"
	"testing"

	"paddock/api"
	"paddock/masks"
	"paddock/tables"
)

// roomy is a row with room behind it, into which an append of its own would write, and all of its memory.
func roomy(row []api.Value) (list, whole []api.Value) {
	behind := value(5, 77, 0)
	whole = slices.Concat(row, []api.Value{behind, behind, behind, behind})
	return whole[:len(row)], whole
}

// spoil changes all of a list's memory, what lies behind it too.
func spoil[T any](list []T, with T) {
	list = list[:cap(list)]
	for i := range list {
		list[i] = with
	}
}

// spoiled is a component that stands in no store.
func spoiled() api.Value { return value(-7, -7, -7) }

// someStores are the masks of stores of none, of one, of several of one mask, of several masks.
func someStores() [][]masks.Mask {
	return [][]masks.Mask{nil, {0}, {3}, {3, 3, 3}, {0, 0, 1, 3, 1023, 3, 3}, upTo(0, mostTables), slices.Repeat([]masks.Mask{3, 67}, mostEntities/2)}
}

// work changes each entity of a store in its row and in its mask, and lets the store shrink and grow.
func work(t *testing.T, got *tables.Store, m *model) {
	t.Helper()
	for i, e := range slices.Clone(m.list) {
		for kind := range kindsInAll {
			sets(t, got, m, e.Handle, some(kind, 3000+i))
		}
		if i%2 == 0 {
			adds(t, got, m, e.Handle, some(2, 4000+i))
		} else {
			removes(t, got, m, e.Handle, 0)
		}
	}
	for i, e := range slices.Clone(m.list) {
		if i%3 != 1 {
			takes(t, got, m, e.Handle)
		}
	}
	for i := range 6 {
		puts(t, got, m, handle(200+i, 1), rowOf(3, 2000+i))
	}
	same(t, "after work", got, m)
}

func TestPutKeepsNothing(t *testing.T) {
	for _, mask := range []masks.Mask{0, 1, 3, 64, 1023} {
		got, m := of(t, mask, 3)
		list, whole := roomy(rowOf(mask, 40))
		was := slices.Clone(whole)
		puts(t, got, m, handle(50, 1), list)
		spoil(whole, spoiled())
		same(t, "what was handed in is changed", got, m)

		copy(whole, was)
		work(t, got, m)
		if !slices.Equal(whole, was) {
			t.Fatalf("what was handed in became %v", whole)
		}
		refused := func(h api.Handle, row []api.Value, want error) {
			t.Helper()
			was := slices.Clone(row)
			if err := got.Put(h, row); err != want {
				t.Fatalf("Put(%v, %v): %v; asked is %v", h, row, err, want)
			}
			if !slices.Equal(row, was) {
				t.Fatalf("what was handed in, and refused, became %v", row)
			}
			spoil(row, spoiled())
			same(t, "what was refused is changed", got, m)
		}
		refused(handle(200, 1), rowOf(mask, 7), api.ErrExists)
		refused(handle(300, 1), []api.Value{value(3, 0, 0), value(0, 0, 0)}, api.ErrForm)
	}
}

func TestAnswersAreOwn(t *testing.T) {
	for _, all := range someStores() {
		got, m := of(t, all...)
		spoilAnswers(got, m)
		same(t, "answers are changed", got, m)

		var early []api.Entity
		for _, e := range m.list {
			x, _ := got.Entity(e.Handle)
			early = append(early, x)
		}
		handles, list := got.In(3), got.Masks()
		before := m.clone()
		work(t, got, m)
		for i, e := range early {
			if want := before.list[i]; !equal(e, want) {
				t.Fatalf("an earlier entity became %v; asked is %v", e, want)
			}
		}
		if !slices.Equal(handles, before.in(3)) || !slices.Equal(list, masksOf(before.list)) {
			t.Fatalf("earlier answers became %v, %v", handles, list)
		}
	}
}

// spoilAnswers changes all that a store answers.
func spoilAnswers(got *tables.Store, m *model) {
	for _, e := range m.list {
		x, _ := got.Entity(e.Handle)
		spoil(x.Values, spoiled())
	}
	for _, mask := range got.Masks() {
		spoil(got.In(mask), handle(-7, -7))
		_ = append(got.In(mask), handle(-7, -7))
	}
	spoil(got.Masks(), 512)
}

// TestTakenIsOwn: an entity that went hangs no longer on the store, nor the store on it.
func TestTakenIsOwn(t *testing.T) {
	for _, all := range someStores() {
		for i := range min(len(all), 4) {
			got, m := of(t, all...)
			e, err := got.Take(handle(i, 1))
			want, _ := m.take(handle(i, 1))
			if !equal(e, want) || err != nil {
				t.Fatalf("Take: %v, %v", e, err)
			}
			work(t, got, m)
			if !equal(e, want) {
				t.Fatalf("what was taken became %v; asked is %v", e, want)
			}
			spoil(e.Values, spoiled())
			same(t, "what was taken is changed", got, m)
		}
	}
}

// TestCloneIsApart: what is done to the one doesn't show in the other, whichever is changed first.
func TestCloneIsApart(t *testing.T) {
	for _, all := range someStores() {
		got, m := of(t, all...)
		twin, k := got.Clone(), m.clone()
		if twin == got {
			t.Fatal("Clone answers the store itself")
		}
		same(t, "a clone", twin, k)
		work(t, twin, k)
		same(t, "a store whose clone was changed", got, m)

		twin, k = got.Clone(), m.clone()
		work(t, got, m)
		same(t, "a clone of a store that was changed", twin, k)
		work(t, twin, k)
		same(t, "a store that was changed ahead of its clone", got, m)
	}
}

func TestNewAnswersStoresOfTheirOwn(t *testing.T) {
	one, m := of(t, 1, 3)
	two, k := of(t, 65)
	work(t, one, m)
	same(t, "the other", two, k)
	work(t, two, k)
	same(t, "the one", one, m)
}
