package table_test

import (
	"slices"
	"testing"

	"paddock/api"
	"paddock/masks"
	"paddock/table"
)

// roomy is a row with room behind it, into which an append of its own would write, and all of its memory.
func roomy(row []api.Value) (list, whole []api.Value) {
	behind := value(5, 77, 0)
	whole = slices.Concat(row, []api.Value{behind, behind, behind, behind})
	return whole[:len(row)], whole
}

// spoil changes all of a list's memory, what lies behind it too.
func spoil[T any](list []T, with T) {
	list = list[:cap(list)]
	for i := range list {
		list[i] = with
	}
}

// spoiled is a component that stands in no table.
func spoiled() api.Value { return value(-7, -7, -7) }

// someMasks are masks of no kind, of one, of some and of all.
func someMasks() []masks.Mask { return []masks.Mask{0, 1, 64, 1 + 2 + 8, 1023} }

// work changes each row of a table, and lets it shrink and grow.
func work(t *testing.T, got *table.Table, m *model) {
	t.Helper()
	for i := range got.Len() {
		for _, v := range rowOf(m.mask, 3000+i) {
			sets(t, got, m, i, v)
		}
	}
	for range got.Len()/2 + 1 {
		takes(t, got, m, 0)
	}
	for i := range 6 {
		adds(t, got, m, handle(70+i, 1), rowOf(m.mask, 2000+i))
	}
	same(t, "after work", got, m)
}

func TestAddKeepsNothing(t *testing.T) {
	for _, mask := range someMasks() {
		got, m := of(t, mask, 2)
		list, whole := roomy(rowOf(mask, 40))
		was := slices.Clone(whole)
		adds(t, got, m, handle(50, 1), list)
		spoil(whole, spoiled())
		same(t, "what was handed in is changed", got, m)

		copy(whole, was)
		work(t, got, m)
		if !slices.Equal(whole, was) {
			t.Fatalf("what was handed in became %v", whole)
		}
		other := rowOf(mask^64, 40)
		was = slices.Clone(other)
		adds(t, got, m, handle(50, 1), other)
		if !slices.Equal(other, was) {
			t.Fatalf("what was handed in, and refused, became %v", other)
		}
		spoil(other, spoiled())
		same(t, "what was refused is changed", got, m)
	}
}

func TestAnswersAreOwn(t *testing.T) {
	for _, mask := range someMasks() {
		got, m := of(t, mask, 5)
		for i := range 5 {
			e, _ := got.Entity(i)
			spoil(e.Values, spoiled())
		}
		spoil(got.Handles(), handle(-7, -7))
		_ = append(got.Handles(), handle(-7, -7))
		same(t, "answers are changed", got, m)

		var early []api.Entity
		for i := range 5 {
			e, _ := got.Entity(i)
			early = append(early, e)
		}
		handles := got.Handles()
		before := m.clone()
		work(t, got, m)
		for i, e := range early {
			if want, _ := before.entity(i); !equal(e, want) {
				t.Fatalf("an earlier entity became %v; asked is %v", e, want)
			}
		}
		if !slices.Equal(handles, before.handles()) {
			t.Fatalf("earlier handles became %v", handles)
		}
	}
}

// TestTakenIsOwn: an entity that went hangs no longer on the table, nor the table on it.
func TestTakenIsOwn(t *testing.T) {
	for _, mask := range someMasks() {
		for i := range 4 {
			got, m := of(t, mask, 4)
			e, err := got.Take(i)
			want, _ := m.take(i)
			if !equal(e, want) || err != nil {
				t.Fatalf("Take: %v, %v", e, err)
			}
			work(t, got, m)
			if !equal(e, want) {
				t.Fatalf("what was taken became %v; asked is %v", e, want)
			}
			spoil(e.Values, spoiled())
			same(t, "what was taken is changed", got, m)
		}
	}
}

// TestCloneIsApart: what is done to the one doesn't show in the other, whichever is changed first.
func TestCloneIsApart(t *testing.T) {
	for _, mask := range someMasks() {
		for _, n := range []int{0, 1, 5, 60, mostRows} {
			got, m := of(t, mask, n)
			twin, k := got.Clone(), m.clone()
			if twin == got {
				t.Fatal("Clone answers the table itself")
			}
			same(t, "a clone", twin, k)
			work(t, twin, k)
			same(t, "a table whose clone was changed", got, m)

			twin, k = got.Clone(), m.clone()
			work(t, got, m)
			same(t, "a clone of a table that was changed", twin, k)
			work(t, twin, k)
			same(t, "a table that was changed ahead of its clone", got, m)
		}
	}
}
