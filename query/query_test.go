package query_test

import (
	"fmt"
	"math"
	"slices"
	"testing"

	"paddock/api"
	"paddock/masks"
	"paddock/query"
	"paddock/tables"
)

func TestExample(t *testing.T) {
	s := storeOf(t, entity(handle(0, 1), value(api.Position, 0, 0)), entity(handle(1, 1), value(api.Position, 0, 0), value(api.Extent, 0, 0)))
	q, err := query.Of([]int{0}, []int{1})
	if err != nil {
		t.Fatalf("Of: %v", err)
	}
	if list := q.Handles(s); !slices.Equal(list, []api.Handle{handle(0, 1)}) {
		t.Errorf("Handles: %v", list)
	}
}

// TestOfAllKinds: of all choices of kinds, with and without, in any order and more than once.
func TestOfAllKinds(t *testing.T) {
	all := allKinds()
	for i, with := range all {
		for _, k := range []int{0, i, 1023 - i, i * 37 % 1024, 1023} {
			without := all[k]
			want := query.Query{With: masks.Mask(i), Without: masks.Mask(k)} // parts doubles with each kind, so a choice's place is its mask's number
			for name, c := range map[string]ask{
				"rising": {with, without},
				"twice":  {slices.Concat(with, with), slices.Concat(without, without, without)},
				"falling": {slices.SortedFunc(slices.Values(with), func(a, b int) int { return b - a }),
					slices.SortedFunc(slices.Values(without), func(a, b int) int { return b - a })},
			} {
				if q, err := query.Of(c.with, c.without); q != want || err != nil {
					t.Fatalf("Of(%v, %v), %s: %v, %v; asked is %v", c.with, c.without, name, q, err, want)
				}
			}
		}
	}
}

// TestOfNothing: nil and empty lists are the same, and all entities answer their query.
func TestOfNothing(t *testing.T) {
	for _, c := range []ask{{nil, nil}, {[]int{}, nil}, {nil, []int{}}, {[]int{}, []int{}}} {
		if q, err := query.Of(c.with, c.without); q != (query.Query{}) || err != nil {
			t.Errorf("Of(%v, %v): %v, %v", c.with, c.without, q, err)
		}
	}
	for name, list := range someLists() {
		same(t, name, query.Query{}, ask{}, storeOf(t, list...), list)
		if n := (query.Query{}).Count(storeOf(t, list...)); n != len(list) {
			t.Errorf("%s: Count: %d", name, n)
		}
	}
}

// notKinds are numbers that aren't kinds; many of them would be one, cut to fewer bits or taken as a shift.
func notKinds() []int {
	return []int{
		math.MinInt, math.MinInt + 1, -1 << 32, math.MinInt32, -256, -64, -63, -10, -2, -1,
		10, 11, 31, 32, 33, 63, 64, 65, 128, 255, 256, 257, 1 << 16, math.MaxInt32, 1 << 32, 1<<32 + 3, math.MaxInt - 1, math.MaxInt,
	}
}

// TestOfWrongKinds: one that isn't a kind, at each place of either list.
func TestOfWrongKinds(t *testing.T) {
	refused := func(with, without []int) {
		t.Helper()
		if q, err := query.Of(with, without); q != (query.Query{}) || err != api.ErrKind {
			t.Fatalf("Of(%v, %v): %v, %v", with, without, q, err)
		}
	}
	for _, wrong := range notKinds() {
		for _, kinds := range [][]int{nil, {0}, {9}, {3, 0, 3}, {0, 1, 2, 3, 4, 5, 6, 7, 8, 9}} {
			for i := range len(kinds) + 1 {
				list := slices.Insert(slices.Clone(kinds), i, wrong)
				for _, other := range [][]int{nil, {0}, {9, 1}, {wrong}, {-1}} {
					refused(list, other)
					refused(other, list)
				}
			}
		}
	}
	long := slices.Repeat([]int{2, 7}, 50000)
	if q, err := query.Of(long, long); q != (query.Query{With: 132, Without: 132}) || err != nil {
		t.Errorf("Of long lists: %v, %v", q, err)
	}
	refused(append(slices.Clone(long), 10), long)
	refused(long, append(slices.Clone(long), -1))
}

// TestFitsAllRows: rows of all kinds, of queries of all choices of five kinds on either side.
func TestFitsAllRows(t *testing.T) {
	var rows [][]api.Value
	for i, kinds := range allKinds() {
		rows = append(rows, rowOf(i, kinds...))
	}
	few := parts(0, 1, 4, 6, 9)
	for _, with := range few {
		for _, without := range few {
			a := ask{with, without}
			q := a.query()
			for _, row := range rows {
				if got := q.Fits(row); got != a.fits(row) {
					t.Fatalf("Fits of %v, %v: %v", a, row, got)
				}
			}
		}
	}
}

// TestFitsSomeQueries: rows of all kinds, of each kind and of bits that no kind has.
func TestFitsSomeQueries(t *testing.T) {
	for i, kinds := range allKinds() {
		row := rowOf(i, kinds...)
		for _, a := range someAsks() {
			if got := a.query().Fits(row); got != a.fits(row) {
				t.Fatalf("Fits of %v, %v: %v", a, row, got)
			}
		}
		for _, c := range []struct {
			q    query.Query
			want bool
		}{
			{query.Query{With: masks.Mask(i)}, true},
			{query.Query{With: masks.Mask(i), Without: masks.Mask(1023 - i)}, true},
			{query.Query{With: masks.Mask(i), Without: math.MaxUint64 - masks.Mask(i)}, true},
			{query.Query{With: math.MaxUint64}, false},
			{query.Query{Without: math.MaxUint64}, i == 0},
			{query.Query{With: math.MaxUint64, Without: math.MaxUint64}, false},
		} {
			if got := c.q.Fits(row); got != c.want {
				t.Fatalf("Fits of %v, %v: %v", c.q, row, got)
			}
		}
	}
}

// TestFitsByHand holds Fits to what is written down.
func TestFitsByHand(t *testing.T) {
	at, half, blocks, own := value(0, 5, 6), value(1, 0, 0), value(3, 0, 0), value(9, -1, 1)
	for _, c := range []struct {
		with, without []int
		row           []api.Value
		want          bool
	}{
		{nil, nil, nil, true},
		{nil, nil, []api.Value{at}, true},
		{[]int{0}, nil, nil, false},
		{nil, []int{0}, nil, true},
		{[]int{0}, nil, []api.Value{at}, true},
		{nil, []int{0}, []api.Value{at}, false},
		{[]int{0}, []int{1}, []api.Value{at}, true},
		{[]int{0}, []int{1}, []api.Value{at, half}, false},
		{[]int{0, 1}, []int{3}, []api.Value{at, half, own}, true},
		{[]int{0, 1}, []int{3}, []api.Value{at, half, blocks}, false},
		{[]int{0, 1}, []int{3}, []api.Value{at, own}, false},
		{[]int{0, 1}, []int{3, 9}, []api.Value{at, half, own}, false},
		{[]int{0}, []int{0}, []api.Value{at}, false},
		{[]int{0}, []int{0}, nil, false},
		{[]int{9}, nil, []api.Value{own}, true},
	} {
		q, err := query.Of(c.with, c.without)
		if got := q.Fits(c.row); got != c.want || err != nil {
			t.Errorf("Fits of %v, %v, %v: %v, %v", c.with, c.without, c.row, got, err)
		}
	}
}

// TestWrongRows: a row that isn't right may be answered by either, but there is no panic.
func TestWrongRows(t *testing.T) {
	for _, a := range append(someAsks()[:40], ask{[]int{63}, []int{63}}) {
		for _, kind := range notKinds() {
			a.query().Fits([]api.Value{value(kind, 0, 0)})
			a.query().Fits([]api.Value{value(1, -1, math.MinInt), value(kind, kind, kind), value(0, math.MaxInt, 0)})
		}
		a.query().Fits(make([]api.Value, 1000))
	}
}

// TestAllStores: some queries of some stores.
func TestAllStores(t *testing.T) {
	for name, list := range someLists() {
		s := storeOf(t, list...)
		for _, a := range someAsks() {
			same(t, name, a.query(), a, s, list)
			q, err := query.Of(a.with, a.without)
			if err == nil {
				same(t, name, q, a, s, list)
			}
		}
	}
}

// TestByHand holds all answers to what is written down.
func TestByHand(t *testing.T) {
	at, half, blocks := value(0, 15, 15), value(1, 2, 2), value(3, 0, 0)
	first := entity(handle(1, 7), at)
	both := entity(handle(2, 1), at, half)
	again := entity(handle(2, 3), at, half, blocks)
	bare := entity(handle(3, 1))
	wide := entity(handle(4, 1), half, blocks)
	last := entity(handle(9, 1), at)
	s := storeOf(t, last, wide, again, bare, both, first)
	for _, c := range []struct {
		with, without []int
		want          []api.Entity
		boxes         []api.Handle
	}{
		{nil, nil, []api.Entity{first, both, again, bare, wide, last}, []api.Handle{handle(2, 1), handle(2, 3)}},
		{[]int{0}, nil, []api.Entity{first, both, again, last}, []api.Handle{handle(2, 1), handle(2, 3)}},
		{[]int{1}, nil, []api.Entity{both, again, wide}, []api.Handle{handle(2, 1), handle(2, 3)}},
		{[]int{0}, []int{1}, []api.Entity{first, last}, nil},
		{[]int{1}, []int{0}, []api.Entity{wide}, nil},
		{[]int{0, 1}, []int{3}, []api.Entity{both}, []api.Handle{handle(2, 1)}},
		{[]int{3}, nil, []api.Entity{again, wide}, []api.Handle{handle(2, 3)}},
		{nil, []int{0, 1, 3}, []api.Entity{bare}, nil},
		{[]int{2}, nil, nil, nil},
		{[]int{0}, []int{0}, nil, nil},
	} {
		q, err := query.Of(c.with, c.without)
		if err != nil {
			t.Fatalf("Of: %v", err)
		}
		if list := q.Handles(s); !slices.Equal(list, handlesOf(c.want)) {
			t.Errorf("Handles of %v, %v: %v", c.with, c.without, list)
		}
		if list := q.Entities(s); !slices.EqualFunc(list, c.want, equal) {
			t.Errorf("Entities of %v, %v: %v", c.with, c.without, list)
		}
		if n := q.Count(s); n != len(c.want) {
			t.Errorf("Count of %v, %v: %d", c.with, c.without, n)
		}
		if list := q.Boxes(s); !slices.Equal(list, c.boxes) {
			t.Errorf("Boxes of %v, %v: %v", c.with, c.without, list)
		}
	}
}

// TestBoxesAtEdges: boxes as great and as far out as they may be, and of no width, are boxes all the same.
func TestBoxesAtEdges(t *testing.T) {
	var list []api.Entity
	for _, at := range []int{-1048576, 0, 1048576} {
		for _, half := range []int{0, 1, 1048576} {
			n := len(list)
			list = append(list, entity(handle(n, 1), value(0, at, -at), value(1, half, 1048576-half)), entity(handle(n+1, 1), value(0, at, at)))
		}
	}
	q := query.Query{}
	same(t, "edges", q, ask{}, storeOf(t, list...), list)
	if n := len(q.Boxes(storeOf(t, list...))); n != 9 {
		t.Errorf("Boxes: %d", n)
	}
}

// TestBothOfRows: an entity answers both queries' query just if it answers the one and the other, whichever is asked first.
func TestBothOfRows(t *testing.T) {
	var rows [][]api.Value
	for i, kinds := range parts(0, 1, 3, 9) {
		rows = append(rows, rowOf(i, kinds...))
	}
	var few []ask
	for _, with := range parts(0, 1, 9) {
		for _, without := range parts(0, 1, 3) {
			few = append(few, ask{with, without})
		}
	}
	few = append(few, ask{[]int{10}, nil}, ask{nil, []int{10}}, ask{[]int{63}, []int{0}}, ask{[]int{0}, []int{63}}, ask{[]int{32}, []int{31}})
	for _, a := range few {
		for _, b := range few {
			q := a.query().Both(b.query())
			for _, row := range rows {
				if got := q.Fits(row); got != (a.fits(row) && b.fits(row)) {
					t.Fatalf("Both of %v and %v: %v of %v", a, b, got, row)
				}
			}
		}
		if q := a.query(); q.Both(q) != q || q.Both(query.Query{}) != q || (query.Query{}).Both(q) != q {
			t.Fatalf("Both of %v and itself, or of that of all: %v, %v", a, q.Both(q), q.Both(query.Query{}))
		}
	}
}

// TestBothOfStores: what both queries' query answers of stores.
func TestBothOfStores(t *testing.T) {
	few := []ask{{}, {[]int{0}, nil}, {nil, []int{0}}, {[]int{1}, []int{3}}, {[]int{3}, []int{1}}, {[]int{0, 1}, []int{9}}, {nil, []int{63}}, {[]int{12}, nil}}
	for name, list := range someLists() {
		s := storeOf(t, list...)
		for _, a := range few {
			for _, b := range few {
				q := a.query().Both(b.query())
				same(t, fmt.Sprintf("%s, of both", name), q, ask{slices.Concat(a.with, b.with), slices.Concat(a.without, b.without)}, s, list)
			}
		}
	}
}

// TestAfterChanges: a query answers of a store as it is now, however it came to that.
func TestAfterChanges(t *testing.T) {
	list := spread(60, []int{0}, []int{0, 1}, []int{0, 1, 3}, []int{4})
	s := storeOf(t, list...)
	answers := func(when string) {
		t.Helper()
		for _, a := range []ask{{}, {[]int{0}, []int{1}}, {[]int{0, 1}, nil}, {[]int{3}, []int{6}}, {[]int{6}, nil}, {nil, []int{0, 6}}} {
			same(t, when, a.query(), a, s, list)
			same(t, when+", of a clone", a.query(), a, s.Clone(), list)
		}
	}
	done := func(err error) {
		t.Helper()
		if err != nil {
			t.Fatal(err)
		}
	}
	answers("at first")
	for i, e := range list {
		switch i % 5 {
		case 0:
			done(s.Add(e.Handle, value(6, i, -i)))
			list[i].Values = append(slices.Clone(e.Values), value(6, i, -i))
		case 1:
			kind := e.Values[0].Kind
			done(s.Remove(e.Handle, kind))
			list[i].Values = slices.Clone(e.Values[1:])
		case 2:
			v := some(e.Values[0].Kind, 90+i)
			done(s.Set(e.Handle, v))
			list[i].Values = slices.Concat([]api.Value{v}, e.Values[1:])
		}
	}
	answers("after changes")
	for len(list) > 0 {
		i := len(list) * 5 % 7 % len(list)
		_, err := s.Take(list[i].Handle)
		done(err)
		list = slices.Delete(list, i, i+1)
		answers(fmt.Sprintf("%d are left", len(list)))
	}
	done(s.Put(handle(3, 9), rowOf(1, 0, 1, 6)))
	list = []api.Entity{entity(handle(3, 9), rowOf(1, 0, 1, 6)...)}
	answers("one came back")
}

// TestNewStore: of a store without entities nothing answers.
func TestNewStore(t *testing.T) {
	for _, a := range someAsks() {
		same(t, "a new store", a.query(), a, tables.New(), nil)
	}
}
