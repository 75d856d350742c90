package query_test

import (
	"slices"
	"testing"

	"paddock/api"
	"paddock/query"
	"paddock/tables"
)

// roomy is a list with room behind it, into which an append of its own would write, and all of its memory.
func roomy[T any](list []T, behind T) (front, whole []T) {
	whole = slices.Concat(list, []T{behind, behind, behind, behind})
	return whole[:len(list)], whole
}

// spoil changes all of a list's memory, what lies behind it too.
func spoil[T any](list []T, with T) {
	list = list[:cap(list)]
	for i := range list {
		list[i] = with
	}
}

// TestOfKeepsNothing: the lists of kinds stay, and don't hang together with the query.
func TestOfKeepsNothing(t *testing.T) {
	for _, with := range [][]int{nil, {3}, {9, 0, 3, 0}, {0, -1, 3}} {
		for _, without := range [][]int{nil, {5}, {5, 4, 4, 1}, {11, 2}} {
			one, all := roomy(with, 7)
			two, rest := roomy(without, 8)
			wasAll, wasRest := slices.Clone(all), slices.Clone(rest)
			q, err := query.Of(one, two)
			if !slices.Equal(all, wasAll) || !slices.Equal(rest, wasRest) {
				t.Fatalf("what was handed in became %v, %v", all, rest)
			}
			spoil(all, 6)
			spoil(rest, 6)
			if err == nil && q != (ask{with, without}).query() {
				t.Fatalf("the query became %v", q)
			}
		}
	}
}

// TestFitsChangesNothing: the row stays.
func TestFitsChangesNothing(t *testing.T) {
	for i, kinds := range allKinds() {
		row, whole := roomy(rowOf(i, kinds...), value(7, 7, 7))
		was := slices.Clone(whole)
		for _, a := range someAsks()[:20] {
			a.query().Fits(row)
		}
		if !slices.Equal(whole, was) {
			t.Fatalf("the row became %v; it was %v", whole, was)
		}
	}
}

// spoilAnswers changes all that a query answers.
func spoilAnswers(q query.Query, s *tables.Store) {
	spoil(q.Handles(s), handle(-7, -7))
	spoil(q.Boxes(s), handle(-7, -7))
	list := q.Entities(s)
	for _, e := range list {
		spoil(e.Values, value(-7, -7, -7))
	}
	spoil(list, entity(handle(-7, -7)))
}

// TestAnswersAreOwn: a change of an answer shows neither in the store nor in another answer.
func TestAnswersAreOwn(t *testing.T) {
	for name, list := range someLists() {
		s := storeOf(t, list...)
		for _, a := range []ask{{}, {[]int{0}, nil}, {[]int{0, 1}, nil}, {nil, []int{3}}} {
			q := a.query()
			want := a.entities(list)
			handles, entities, boxes := q.Handles(s), q.Entities(s), q.Boxes(s)
			spoilAnswers(q, s)
			same(t, name+", answers are changed", q, a, s, list)

			held := func(when string) {
				t.Helper()
				if !slices.Equal(handles, handlesOf(want)) || !slices.EqualFunc(entities, want, equal) || !slices.Equal(boxes, boxed(want)) {
					t.Fatalf("%s: %s: earlier answers became %v, %v, %v", name, when, handles, entities, boxes)
				}
			}
			held("answers are changed")
			spoil(handles, handle(-7, -7))
			handles = handlesOf(want)
			held("the handles are changed")
			spoil(boxes, handle(-7, -7))
			boxes = boxed(want)
			held("the boxes are changed")
		}
	}
}

// TestAnswersStay: an answer is of the store as it was when it was asked.
func TestAnswersStay(t *testing.T) {
	list := spread(30, []int{0, 1}, []int{0, 1, 6})
	s := storeOf(t, list...)
	a := ask{[]int{0}, nil}
	handles, entities, boxes := a.query().Handles(s), a.query().Entities(s), a.query().Boxes(s)
	for _, e := range list {
		if err := s.Set(e.Handle, value(0, 99, 99)); err != nil {
			t.Fatal(err)
		}
		if err := s.Remove(e.Handle, 1); err != nil {
			t.Fatal(err)
		}
	}
	for _, e := range list[:20] {
		if _, err := s.Take(e.Handle); err != nil {
			t.Fatal(err)
		}
	}
	want := a.entities(list)
	if !slices.Equal(handles, handlesOf(want)) || !slices.EqualFunc(entities, want, equal) || !slices.Equal(boxes, handlesOf(want)) {
		t.Fatalf("earlier answers became %v, %v, %v", handles, entities, boxes)
	}
}

// TestEntitiesShareNothing: no two rows of one answer share memory.
func TestEntitiesShareNothing(t *testing.T) {
	for name, list := range someLists() {
		s := storeOf(t, list...)
		got := (query.Query{}).Entities(s)
		want := (ask{}).entities(list)
		for i := range got {
			_ = append(got[i].Values, value(-7, -7, -7))
			spoil(got[i].Values, value(-7, -7, -7))
			got[i] = api.Entity{}
			if i+1 < len(got) && !slices.EqualFunc(got[i+1:], want[i+1:], equal) {
				t.Fatalf("%s: with entity %d the others became %v", name, i, got[i+1:])
			}
		}
	}
}

// TestStoreStays: a store answers the same after all queries as ahead of them.
func TestStoreStays(t *testing.T) {
	for name, list := range someLists() {
		s := storeOf(t, list...)
		all := s.Masks()
		for _, a := range someAsks() {
			q := a.query()
			q.Handles(s)
			q.Entities(s)
			q.Count(s)
			q.Boxes(s)
		}
		if !slices.Equal(s.Masks(), all) || s.Len() != len(list) {
			t.Fatalf("%s: Masks: %v, Len: %d", name, s.Masks(), s.Len())
		}
		for _, e := range list {
			if got, err := s.Entity(e.Handle); !equal(got, e) || err != nil {
				t.Fatalf("%s: Entity: %v, %v; asked is %v", name, got, err, e)
			}
		}
	}
}
