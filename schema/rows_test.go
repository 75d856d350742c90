package schema_test

import (
	"fmt"
	"slices"
	"testing"

	"paddock/api"
	"paddock/masks"
	"paddock/schema"
)

// allRows calls for a right row of each choice of kinds, with components from all of their ranges.
func allRows(call func(kinds []int, row []api.Value)) {
	for _, kinds := range parts() {
		for _, lay := range []func(int) api.Value{low, high, some} {
			call(kinds, of(kinds, lay))
		}
	}
}

func TestMask(t *testing.T) {
	for i, kinds := range parts() {
		for _, lay := range []func(int) api.Value{low, high, some} {
			if got := schema.Mask(of(kinds, lay)); got != masks.Mask(i) {
				t.Fatalf("the mask of a row of %v: %d", kinds, got)
			}
		}
	}
	if got := schema.Mask([]api.Value{value(0, 1, 2), value(3, 0, 0), value(9, 5, 6)}); got != 521 {
		t.Errorf("the mask of Position, Obstacle and kind 9: %d", got)
	}
}

func TestFind(t *testing.T) {
	allRows(func(kinds []int, row []api.Value) {
		for k := range kindsInAll {
			v, ok := schema.Find(row, k)
			i := slices.Index(kinds, k)
			if ok != (i >= 0) || ok && v != row[i] || !ok && v != (api.Value{}) {
				t.Fatalf("Find(%v, %d): %v, %v", row, k, v, ok)
			}
		}
		for _, k := range notKinds() {
			if v, ok := schema.Find(row, k); ok || v != (api.Value{}) {
				t.Fatalf("Find(%v, %d): %v, %v", row, k, v, ok)
			}
		}
	})
}

func TestPut(t *testing.T) {
	allRows(func(kinds []int, row []api.Value) {
		for k := range kindsInAll {
			for _, v := range []api.Value{low(k), high(k), some(k)} {
				got := schema.Put(row, v)
				same(t, fmt.Sprintf("Put(%v, %v)", row, v), got, with(row, v))
				if !schema.Right(got) {
					t.Fatalf("Put(%v, %v): %v isn't right", row, v, got)
				}
			}
		}
	})
}

func TestPutByHand(t *testing.T) {
	pos, ext, team := value(0, 3, 4), value(1, 1, 1), value(4, 2, 0)
	for _, c := range []struct {
		row  []api.Value
		v    api.Value
		want []api.Value
	}{
		{nil, ext, []api.Value{ext}},
		{[]api.Value{ext}, pos, []api.Value{pos, ext}},
		{[]api.Value{pos, team}, ext, []api.Value{pos, ext, team}},
		{[]api.Value{pos, ext}, team, []api.Value{pos, ext, team}},
		{[]api.Value{pos, ext, team}, value(1, 5, 6), []api.Value{pos, value(1, 5, 6), team}},
		{[]api.Value{pos, ext, team}, value(4, 9, 0), []api.Value{pos, ext, value(4, 9, 0)}},
		{[]api.Value{pos}, pos, []api.Value{pos}},
		// One that isn't right is put like the others.
		{[]api.Value{pos, team}, value(0, 1048577, 0), []api.Value{value(0, 1048577, 0), team}},
		{[]api.Value{pos, team}, value(3, 1, 1), []api.Value{pos, value(3, 1, 1), team}},
	} {
		same(t, fmt.Sprintf("Put(%v, %v)", c.row, c.v), schema.Put(c.row, c.v), c.want)
	}
}

// TestPutOfNoKind: the row has it, besides its own components.
func TestPutOfNoKind(t *testing.T) {
	allRows(func(kinds []int, row []api.Value) {
		for _, k := range notKinds() {
			got := schema.Put(row, value(k, 1, 2))
			if !slices.Contains(got, value(k, 1, 2)) {
				t.Fatalf("Put of kind %d: %v", k, got)
			}
			same(t, "the others", without(got, k), row)
		}
	})
}

func TestDrop(t *testing.T) {
	allRows(func(kinds []int, row []api.Value) {
		for k := range kindsInAll {
			same(t, fmt.Sprintf("Drop(%v, %d)", row, k), schema.Drop(row, k), without(row, k))
		}
		for _, k := range notKinds() {
			same(t, fmt.Sprintf("Drop(%v, %d)", row, k), schema.Drop(row, k), row)
		}
	})
}

// boxOf reckons a box from the numbers of Position and Extent.
func boxOf(at, half api.Value) api.Box {
	return api.Box{X0: at.A - half.A, Y0: at.B - half.B, X1: at.A + half.A, Y1: at.B + half.B}
}

func TestBoxAndBlocksOfAllKinds(t *testing.T) {
	allRows(func(kinds []int, row []api.Value) {
		boxed := slices.Contains(kinds, 0) && slices.Contains(kinds, 1)
		var want api.Box
		if boxed {
			want = boxOf(row[0], row[1])
		}
		if b, ok := schema.Box(row); b != want || ok != boxed {
			t.Fatalf("Box(%v): %v, %v; asked is %v, %v", row, b, ok, want, boxed)
		}
		if got := schema.Blocks(row); got != (boxed && slices.Contains(kinds, 3)) {
			t.Fatalf("Blocks(%v): %v", row, got)
		}
	})
}

// TestBoxOfAllEdges: what else is in the row doesn't matter.
func TestBoxOfAllEdges(t *testing.T) {
	for _, x := range edges() {
		for _, y := range edges() {
			for _, half := range []api.Value{value(1, 0, 0), value(1, 1, 2), value(1, 1048576, 0), value(1, 7, 1048576), value(1, 1048576, 1048576)} {
				at := value(0, x, y)
				if fault(at) != nil {
					continue
				}
				for _, row := range [][]api.Value{{at, half}, {at, half, value(3, 0, 0)}, {at, half, value(2, 5, 5), value(9, 8, 8)}} {
					if b, ok := schema.Box(row); b != boxOf(at, half) || !ok {
						t.Fatalf("Box(%v): %v, %v", row, b, ok)
					}
					if got := schema.Blocks(row); got != (row[len(row)-1].Kind == 3) {
						t.Fatalf("Blocks(%v): %v", row, got)
					}
				}
			}
		}
	}
}

func TestBoxAndBlocksByHand(t *testing.T) {
	pos, ext, wall := value(0, 3, 4), value(1, 1, 2), value(3, 0, 0)
	box := api.Box{X0: 2, Y0: 2, X1: 4, Y1: 6}
	for _, c := range []struct {
		row           []api.Value
		box           api.Box
		boxed, blocks bool
	}{
		{nil, api.Box{}, false, false},
		{[]api.Value{pos}, api.Box{}, false, false},
		{[]api.Value{ext}, api.Box{}, false, false},
		{[]api.Value{wall}, api.Box{}, false, false},
		{[]api.Value{pos, wall}, api.Box{}, false, false},
		{[]api.Value{ext, wall}, api.Box{}, false, false},
		{[]api.Value{pos, ext}, box, true, false},
		{[]api.Value{pos, ext, wall}, box, true, true},
		{[]api.Value{pos, ext, value(2, 9, 9)}, box, true, false},
		{[]api.Value{pos, ext, value(2, 9, 9), wall, value(4, 1, 0)}, box, true, true},
		{[]api.Value{pos, value(1, 0, 0)}, api.Box{X0: 3, Y0: 4, X1: 3, Y1: 4}, true, false},
		{[]api.Value{{}, value(1, 0, 0), wall}, api.Box{}, true, true},
	} {
		if b, ok := schema.Box(c.row); b != c.box || ok != c.boxed {
			t.Errorf("Box(%v): %v, %v", c.row, b, ok)
		}
		if got := schema.Blocks(c.row); got != c.blocks {
			t.Errorf("Blocks(%v): %v", c.row, got)
		}
	}
}

// TestWrongRows: of rows that aren't right any answer will do, but there is one; Drop leaves none of the kind, and Find tells one of the kind that is there, or the one of no fields.
func TestWrongRows(t *testing.T) {
	kinds := append([]int{0, 1, 2, 3, 6, 9}, notKinds()...)
	call := func(row []api.Value) {
		schema.Mask(row)
		schema.Box(row)
		schema.Blocks(row)
		for _, k := range kinds {
			schema.Put(row, value(k, 1, 1))
			if got := schema.Drop(row, k); len(without(got, k)) != len(got) {
				t.Fatalf("Drop(%v, %d): %v", row, k, got)
			}
			v, ok := schema.Find(row, k)
			if ok && (v.Kind != k || !slices.Contains(row, v)) || !ok && v != (api.Value{}) {
				t.Fatalf("Find(%v, %d): %v, %v", row, k, v, ok)
			}
		}
	}
	allLists(3, mixed(), call)
	for _, far := range edges() {
		for _, near := range edges() {
			call([]api.Value{value(0, far, near), value(1, near, far), value(3, far, far)})
			call([]api.Value{value(far, 1, 1), value(near, 2, 2), value(far, 3, 3)})
		}
	}
	var long []api.Value
	for i := range 100000 {
		long = append(long, value(i*7%13-1, i, -i))
	}
	call(long)
}
