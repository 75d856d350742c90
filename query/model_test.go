package query_test

import (
	"fmt"
	"slices"
	"testing"

	"paddock/api"
	"paddock/masks"
	"paddock/query"
	"paddock/tables"
)

// Each call has just the signature of its chapter.
var (
	_ func([]int, []int) (query.Query, error)       = query.Of
	_ func(query.Query, []api.Value) bool           = query.Query.Fits
	_ func(query.Query, *tables.Store) []api.Handle = query.Query.Handles
	_ func(query.Query, *tables.Store) []api.Entity = query.Query.Entities
	_ func(query.Query, *tables.Store) int          = query.Query.Count
	_ func(query.Query, query.Query) query.Query    = query.Query.Both
	_ func(query.Query, *tables.Store) []api.Handle = query.Query.Boxes
)

// The limits are written out here, so that the tests don't hang on the constants that the package itself uses.
const (
	mostEntities = 128
	mostTables   = 32
)

// value is a component, handle a handle.
func value(kind, a, b int) api.Value   { return api.Value{Kind: kind, A: a, B: b} }
func handle(index, gen int) api.Handle { return api.Handle{Index: index, Gen: gen} }

// some is a right component of a kind; of most kinds n tells it from others.
func some(kind, n int) api.Value {
	switch kind {
	case api.Obstacle:
		return value(kind, 0, 0)
	case api.Team, api.Health:
		return value(kind, n%256, 0)
	}
	return value(kind, n, 3*n)
}

// rowOf are components of these kinds, which rise.
func rowOf(n int, kinds ...int) []api.Value {
	var row []api.Value
	for _, kind := range kinds {
		row = append(row, some(kind, n+kind))
	}
	return row
}

// entity is an entity.
func entity(h api.Handle, row ...api.Value) api.Entity { return api.Entity{Handle: h, Values: row} }

// parts are all choices of these numbers, each in the order in which these stand.
func parts(numbers ...int) [][]int {
	lists := [][]int{nil}
	for _, n := range numbers {
		for _, list := range slices.Clone(lists) {
			lists = append(lists, append(slices.Clone(list), n))
		}
	}
	return lists
}

// allKinds are the choices of all kinds: of the 1024 masks that are right.
func allKinds() [][]int { return parts(0, 1, 2, 3, 4, 5, 6, 7, 8, 9) }

// ask is a query as lists of bits, 0 to 63, instead of masks.
type ask struct {
	with, without []int
}

// mask is the mask of bits, added up by doubling.
func mask(list []int) masks.Mask {
	var m masks.Mask
	for _, bit := range list {
		one := masks.Mask(1)
		for range bit {
			one += one
		}
		m |= one
	}
	return m
}

// query is the query itself.
func (a ask) query() query.Query {
	return query.Query{With: mask(a.with), Without: mask(a.without)}
}

// has tells whether a row has a component of a kind.
func has(row []api.Value, kind int) bool {
	for _, v := range row {
		if v.Kind == kind {
			return true
		}
	}
	return false
}

// fits tells whether a row answers it: the tests' own reckoning, kind by kind.
func (a ask) fits(row []api.Value) bool {
	for _, kind := range a.with {
		if !has(row, kind) {
			return false
		}
	}
	for _, kind := range a.without {
		if has(row, kind) {
			return false
		}
	}
	return true
}

// ahead is handles' order.
func ahead(a, b api.Handle) bool {
	return a.Index < b.Index || a.Index == b.Index && a.Gen < b.Gen
}

// entities are those of a list that answer it, each put to its place among those ahead.
func (a ask) entities(list []api.Entity) []api.Entity {
	var all []api.Entity
	for _, e := range list {
		if !a.fits(e.Values) {
			continue
		}
		i := 0
		for i < len(all) && ahead(all[i].Handle, e.Handle) {
			i++
		}
		all = slices.Insert(all, i, e)
	}
	return all
}

// handlesOf are the handles of entities.
func handlesOf(list []api.Entity) []api.Handle {
	var all []api.Handle
	for _, e := range list {
		all = append(all, e.Handle)
	}
	return all
}

// boxed are the handles of those that have a box.
func boxed(list []api.Entity) []api.Handle {
	var all []api.Handle
	for _, e := range list {
		if has(e.Values, 0) && has(e.Values, 1) {
			all = append(all, e.Handle)
		}
	}
	return all
}

// equal tells whether two entities are the same.
func equal(a, b api.Entity) bool {
	return a.Handle == b.Handle && slices.Equal(a.Values, b.Values)
}

// same holds all that a query answers of a store against a list of its entities.
func same(t *testing.T, when string, q query.Query, a ask, s *tables.Store, list []api.Entity) {
	t.Helper()
	want := a.entities(list)
	if got := q.Handles(s); !slices.Equal(got, handlesOf(want)) {
		t.Fatalf("%s: Handles of %v: %v; asked is %v", when, a, got, handlesOf(want))
	}
	if got := q.Entities(s); !slices.EqualFunc(got, want, equal) {
		t.Fatalf("%s: Entities of %v: %v; asked is %v", when, a, got, want)
	}
	if got := q.Count(s); got != len(want) {
		t.Fatalf("%s: Count of %v: %d; asked is %d", when, a, got, len(want))
	}
	if got := q.Boxes(s); !slices.Equal(got, boxed(want)) {
		t.Fatalf("%s: Boxes of %v: %v; asked is %v", when, a, got, boxed(want))
	}
}

// storeOf is a store of these entities, put in in this order.
func storeOf(t *testing.T, list ...api.Entity) *tables.Store {
	t.Helper()
	s := tables.New()
	for _, e := range list {
		if err := s.Put(e.Handle, e.Values); err != nil {
			t.Fatalf("Put(%v): %v", e, err)
		}
	}
	return s
}

// spread are n entities, of these choices of kinds in turn, put in in an order in which their handles don't rise.
func spread(n int, choices ...[]int) []api.Entity {
	var list []api.Entity
	for i := range n {
		list = append(list, entity(handle(i*37%mostEntities, 1+i%3), rowOf(i, choices[i%len(choices)]...)...))
	}
	return list
}

// someLists are the entities of stores: none, one, several of one mask, several masks whose handles lie among each other, full ones.
func someLists() map[string][]api.Entity {
	lists := map[string][]api.Entity{
		"no entities":          nil,
		"one of no components": {entity(handle(0, 1))},
		"one of a box":         {entity(handle(5, 2), value(0, 3, 4), value(1, 1, 1))},
		"one table":            spread(40, []int{0, 3}),
		"two tables":           spread(40, []int{0}, []int{0, 1}),
		"few tables":           spread(90, nil, []int{0}, []int{1}, []int{0, 1}, []int{0, 1, 3}, []int{0, 3, 9}, []int{1, 3, 9}),
		"a full table":         spread(mostEntities, []int{0, 1, 2, 3, 4, 5, 6, 7, 8, 9}),
		"generations":          generations(),
	}
	for i := 0; i < 1024; i += 248 {
		lists[fmt.Sprint("all tables from ", i)] = spread(mostEntities, allKinds()[i:i+mostTables]...)
	}
	return lists
}

// generations are entities whose handles tell the two fields' rank, and far numbers.
func generations() []api.Entity {
	far := []int{-1 << 63, -1 << 32, -1, 0, 1, 1 << 30, 1 << 32, 1<<63 - 1}
	var list []api.Entity
	for i, index := range far {
		for k, gen := range far {
			list = append(list, entity(handle(gen, index), rowOf(i+k, allKinds()[(i+3*k)%4]...)...))
		}
	}
	return list
}

// someAsks are the queries of all choices of a few kinds, and of bits that no kind has.
func someAsks() []ask {
	var all []ask
	for _, with := range parts(0, 1, 3, 9) {
		for _, without := range parts(0, 1, 3, 9) {
			all = append(all, ask{with, without})
		}
	}
	for _, kinds := range allKinds() {
		all = append(all, ask{kinds, nil}, ask{nil, kinds})
	}
	for _, bit := range []int{10, 31, 32, 33, 62, 63} {
		all = append(all, ask{[]int{bit}, nil}, ask{nil, []int{bit}}, ask{[]int{0, bit}, nil}, ask{[]int{0}, []int{1, bit}}, ask{[]int{bit}, []int{bit}})
	}
	return all
}
