package schema_test

import (
	"math"
	"slices"
	"testing"

	"paddock/api"
	"paddock/masks"
	"paddock/schema"
)

// Each call has just the signature of its chapter.
var (
	_ func(api.Value) error                        = schema.Check
	_ func(...api.Value) ([]api.Value, error)      = schema.Row
	_ func([]api.Value) bool                       = schema.Right
	_ func([]api.Value) masks.Mask                 = schema.Mask
	_ func([]api.Value, int) (api.Value, bool)     = schema.Find
	_ func([]api.Value, api.Value) []api.Value     = schema.Put
	_ func([]api.Value, int) []api.Value           = schema.Drop
	_ func([]api.Value) (api.Box, bool)            = schema.Box
	_ func([]api.Value) bool                       = schema.Blocks
	_ func(api.Value, int, int) (api.Value, error) = schema.Moved
)

// kindsInAll, and the numbers below, are written out here, so that the tests don't hang on the constants that the package itself uses.
const kindsInAll = 10

// ranges are the least and the greatest A, and the least and the greatest B, of each kind.
func ranges() [kindsInAll][4]int {
	return [kindsInAll][4]int{
		{-1048576, 1048576, -1048576, 1048576}, // Position
		{0, 1048576, 0, 1048576},               // Extent
		{-1048576, 1048576, -1048576, 1048576}, // Velocity
		{0, 0, 0, 0},                           // Obstacle
		{0, 255, 0, 0},                         // Team
		{0, 1048576, 0, 0},                     // Health
		{-4194304, 4194304, -4194304, 4194304}, // Custom
		{-4194304, 4194304, -4194304, 4194304},
		{-4194304, 4194304, -4194304, 4194304},
		{-4194304, 4194304, -4194304, 4194304},
	}
}

// value is a component.
func value(kind, a, b int) api.Value { return api.Value{Kind: kind, A: a, B: b} }

// low, high and some are components of a kind, at the ends of its ranges and between them.
func low(kind int) api.Value  { return value(kind, ranges()[kind][0], ranges()[kind][2]) }
func high(kind int) api.Value { return value(kind, ranges()[kind][1], ranges()[kind][3]) }
func some(kind int) api.Value {
	return value(kind, min(3+kind, ranges()[kind][1]), min(7, ranges()[kind][3]))
}

// fault is the error of a component: none, if it is right.
func fault(v api.Value) error {
	if v.Kind < 0 || v.Kind >= kindsInAll {
		return api.ErrKind
	}
	r := ranges()[v.Kind]
	if v.A < r[0] || v.A > r[1] || v.B < r[2] || v.B > r[3] {
		return api.ErrRange
	}
	return nil
}

// notKinds are numbers that aren't kinds; many of them would be one, cut to fewer bits.
func notKinds() []int {
	return []int{
		math.MinInt, math.MinInt + 1, -1 << 32, math.MinInt32, -256, -10, -9, -2, -1,
		10, 11, 12, 63, 64, 65, 255, 256, 257, 1 << 16, math.MaxInt32, 1 << 32, 1<<32 + 1, math.MaxInt - 1, math.MaxInt,
	}
}

// edges are numbers at, just below and just above all ends of ranges, and far away.
func edges() []int {
	list := []int{math.MinInt, math.MinInt + 1, math.MinInt + 1048576, -1 << 32, 1 << 32, 1<<32 + 1, math.MaxInt - 1048576, math.MaxInt - 1, math.MaxInt}
	for _, end := range []int{-4194304, -1048576, -255, 0, 255, 1048576, 4194304} {
		list = append(list, end-1, end, end+1)
	}
	return list
}

// parts are all choices of the kinds, each rising; a choice's place in the list is the number of its mask.
func parts() [][]int {
	lists := [][]int{nil}
	for k := range kindsInAll {
		for _, list := range slices.Clone(lists) {
			lists = append(lists, append(slices.Clone(list), k))
		}
	}
	return lists
}

// of are components of these kinds, in their order.
func of(kinds []int, lay func(kind int) api.Value) []api.Value {
	var row []api.Value
	for _, k := range kinds {
		row = append(row, lay(k))
	}
	return row
}

// without are the components of other kinds, in their order.
func without(row []api.Value, kind int) []api.Value {
	var rest []api.Value
	for _, v := range row {
		if v.Kind != kind {
			rest = append(rest, v)
		}
	}
	return rest
}

// with are the components with v in the place of that of its kind, or besides, laid by kind from 0 on.
func with(row []api.Value, v api.Value) []api.Value {
	var all []api.Value
	for k := range kindsInAll {
		if k == v.Kind {
			all = append(all, v)
			continue
		}
		for _, w := range row {
			if w.Kind == k {
				all = append(all, w)
			}
		}
	}
	return all
}

// allLists calls for each list of up to most of these things.
func allLists(most int, things []api.Value, call func(list []api.Value)) {
	var longer func(list []api.Value)
	longer = func(list []api.Value) {
		call(slices.Clone(list))
		if len(list) == most {
			return
		}
		for _, x := range things {
			longer(append(slices.Clone(list), x))
		}
	}
	longer(nil)
}

// mixed are components that are right and such as aren't, some of one kind.
func mixed() []api.Value {
	return []api.Value{
		value(0, 3, 4), value(0, 1048577, 0), value(1, 1, 1), value(1, -1, 1), value(3, 0, 0), value(3, 0, 1),
		value(6, -9, 9), value(9, 4194304, 0), value(10, 0, 0), value(-1, 5, 5),
	}
}

// same holds an answered row to the one that is asked.
func same(t *testing.T, call string, got, want []api.Value) {
	t.Helper()
	if !slices.Equal(got, want) {
		t.Fatalf("%s: %v; asked is %v", call, got, want)
	}
}
