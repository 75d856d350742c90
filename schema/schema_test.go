package schema_test

import (
	"fmt"
	"math"
	"slices"
	"testing"

	"paddock/api"
	"paddock/schema"
)

func TestExample(t *testing.T) {
	row, err := schema.Row(value(api.Extent, 1, 1), value(api.Position, 3, 4))
	if err != nil {
		t.Fatalf("Row: %v", err)
	}
	same(t, "Row", row, []api.Value{value(api.Position, 3, 4), value(api.Extent, 1, 1)})
	if b, ok := schema.Box(row); !ok || b != (api.Box{X0: 2, Y0: 3, X1: 4, Y1: 5}) {
		t.Errorf("Box: %v, %v", b, ok)
	}
	if v, err := schema.Moved(value(api.Position, 3, 4), 1, -1); v != value(api.Position, 4, 3) || err != nil {
		t.Errorf("Moved: %v, %v", v, err)
	}
}

func TestCheckAllEdges(t *testing.T) {
	kinds := notKinds()
	for k := range kindsInAll {
		kinds = append(kinds, k)
	}
	for _, k := range kinds {
		for _, a := range edges() {
			for _, b := range edges() {
				v := value(k, a, b)
				if got := schema.Check(v); got != fault(v) {
					t.Fatalf("Check(%v): %v; asked is %v", v, got, fault(v))
				}
			}
		}
	}
}

func TestCheckByHand(t *testing.T) {
	for _, c := range []struct {
		v    api.Value
		want error
	}{
		{api.Value{}, nil},
		{value(api.Position, 1048576, -1048576), nil},
		{value(api.Position, 1048577, 0), api.ErrRange},
		{value(api.Position, 0, -1048577), api.ErrRange},
		{value(api.Extent, 1048576, 0), nil},
		{value(api.Extent, 0, 1048577), api.ErrRange},
		{value(api.Extent, -1, 0), api.ErrRange},
		{value(api.Velocity, -1048576, 1048576), nil},
		{value(api.Velocity, 0, 1048577), api.ErrRange},
		{value(api.Obstacle, 0, 0), nil},
		{value(api.Obstacle, 1, 0), api.ErrRange},
		{value(api.Obstacle, 0, -1), api.ErrRange},
		{value(api.Team, 255, 0), nil},
		{value(api.Team, 256, 0), api.ErrRange},
		{value(api.Team, -1, 0), api.ErrRange},
		{value(api.Team, 1, 1), api.ErrRange},
		{value(api.Health, 1048576, 0), nil},
		{value(api.Health, 1048577, 0), api.ErrRange},
		{value(api.Health, -1, 0), api.ErrRange},
		{value(api.Health, 1, -1), api.ErrRange},
		{value(api.Custom, 4194304, -4194304), nil},
		{value(api.Custom, 4194305, 0), api.ErrRange},
		{value(7, 0, -4194305), api.ErrRange},
		{value(9, -4194304, 4194304), nil},
		{value(9, 0, math.MaxInt), api.ErrRange},
		{value(10, 0, 0), api.ErrKind},
		{value(-1, 0, 0), api.ErrKind},
		{value(10, math.MaxInt, math.MinInt), api.ErrKind},
		{value(math.MinInt, 0, 0), api.ErrKind},
	} {
		if got := schema.Check(c.v); got != c.want {
			t.Errorf("Check(%v): %v", c.v, got)
		}
	}
}

// asked is what Row is to answer.
func asked(values []api.Value) ([]api.Value, error) {
	var row []api.Value
	twice := false
	for i, v := range values {
		if err := fault(v); err != nil {
			return nil, err
		}
		twice = twice || len(without(values[:i], v.Kind)) < i
		row = with(row, v)
	}
	if twice {
		return nil, api.ErrExists
	}
	return row, nil
}

// checkRow holds Row of these to what is asked.
func checkRow(t *testing.T, values []api.Value) {
	t.Helper()
	want, fails := asked(values)
	got, err := schema.Row(values...)
	if err != fails || !slices.Equal(got, want) {
		t.Fatalf("Row(%v): %v, %v; asked is %v, %v", values, got, err, want, fails)
	}
	if err == nil && !schema.Right(got) {
		t.Fatalf("Row(%v): %v isn't right", values, got)
	}
}

func TestRowOfAllShortLists(t *testing.T) {
	allLists(4, mixed(), func(values []api.Value) { checkRow(t, values) })
}

// TestRowOfAllKinds: each choice of kinds, laid from before, from behind, and turned about each place.
func TestRowOfAllKinds(t *testing.T) {
	for _, kinds := range parts() {
		for _, lay := range []func(int) api.Value{low, high, some} {
			want := of(kinds, lay)
			values := slices.Clone(want)
			for range len(kinds) + 1 {
				got, err := schema.Row(values...)
				if err != nil {
					t.Fatalf("Row(%v): %v", values, err)
				}
				same(t, "Row", got, want)
				slices.Reverse(values)
				got, _ = schema.Row(values...)
				same(t, "Row from behind", got, want)
				slices.Reverse(values)
				if len(values) > 0 {
					values = append(values[1:], values[0])
				}
			}
		}
	}
}

func TestRowByHand(t *testing.T) {
	pos, ext, team := value(0, 3, 4), value(1, 1, 1), value(4, 2, 0)
	far, noKind := value(0, 1048577, 0), value(10, 0, 0)
	for _, c := range []struct {
		values, want []api.Value
		err          error
	}{
		{nil, nil, nil},
		{[]api.Value{}, nil, nil},
		{[]api.Value{{}}, []api.Value{{}}, nil},
		{[]api.Value{team, pos, ext}, []api.Value{pos, ext, team}, nil},
		{[]api.Value{pos, pos}, nil, api.ErrExists},
		{[]api.Value{pos, ext, value(0, 9, 9)}, nil, api.ErrExists},
		{[]api.Value{far}, nil, api.ErrRange},
		{[]api.Value{noKind}, nil, api.ErrKind},
		{[]api.Value{far, noKind}, nil, api.ErrRange},
		{[]api.Value{noKind, far}, nil, api.ErrKind},
		{[]api.Value{pos, pos, far}, nil, api.ErrRange},
		{[]api.Value{pos, pos, noKind, far}, nil, api.ErrKind},
		{[]api.Value{pos, far}, nil, api.ErrRange},
		{[]api.Value{noKind, noKind}, nil, api.ErrKind},
	} {
		got, err := schema.Row(c.values...)
		if err != c.err || !slices.Equal(got, c.want) {
			t.Errorf("Row(%v): %v, %v; asked is %v, %v", c.values, got, err, c.want, c.err)
		}
	}
}

func TestRowOfLongLists(t *testing.T) {
	for _, n := range []int{11, 12, 50, 1000, 100000} {
		var values []api.Value
		for i := range n {
			values = append(values, some((n-i)%kindsInAll))
		}
		if got, err := schema.Row(values...); len(got) != 0 || err != api.ErrExists {
			t.Errorf("Row of %d: %v, %v", n, got, err)
		}
		for _, last := range []api.Value{value(10, 0, 0), value(4, 256, 0)} {
			if got, err := schema.Row(append(slices.Clone(values), last)...); len(got) != 0 || err != fault(last) {
				t.Errorf("Row of %d, and %v behind: %v, %v", n, last, got, err)
			}
		}
	}
}

func TestRightOfAllShortLists(t *testing.T) {
	allLists(4, mixed(), func(row []api.Value) {
		want := true
		for i, v := range row {
			if fault(v) != nil || i > 0 && row[i-1].Kind >= v.Kind {
				want = false
			}
		}
		if got := schema.Right(row); got != want {
			t.Fatalf("Right(%v): %v", row, got)
		}
	})
}

// TestRightOfAllKinds: each right row is, and isn't any more when one thing of it is changed.
func TestRightOfAllKinds(t *testing.T) {
	for _, kinds := range parts() {
		for _, lay := range []func(int) api.Value{low, high, some} {
			row := of(kinds, lay)
			if !schema.Right(row) {
				t.Fatalf("Right(%v): false", row)
			}
			for i, v := range row {
				for _, change := range wrongs(v) {
					wrong := slices.Clone(row)
					wrong[i] = change
					isWrong(t, fmt.Sprint("changed at ", i), wrong)
				}
				isWrong(t, "with one twice", slices.Insert(slices.Clone(row), i, v))
				for k := range i {
					turned := slices.Clone(row)
					turned[i], turned[k] = turned[k], turned[i]
					isWrong(t, "with two turned", turned)
				}
			}
		}
	}
}

// wrongs are components like v that aren't right.
func wrongs(v api.Value) []api.Value {
	r := ranges()[v.Kind]
	return []api.Value{
		value(v.Kind, r[0]-1, v.B), value(v.Kind, r[1]+1, v.B), value(v.Kind, v.A, r[2]-1), value(v.Kind, v.A, r[3]+1),
		value(-1, v.A, v.B), value(10, v.A, v.B), value(v.Kind, math.MinInt, v.B), value(v.Kind, v.A, math.MaxInt),
	}
}

// isWrong holds that a row isn't right.
func isWrong(t *testing.T, how string, row []api.Value) {
	t.Helper()
	if schema.Right(row) {
		t.Fatalf("a row %s is right: %v", how, row)
	}
}
