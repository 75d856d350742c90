package plane_test

import (
	"math"
	"slices"
	"testing"

	"paddock/api"
	"paddock/plane"
)

// The limits are written out here, so that the tests don't hang on the constants that the package itself uses.
const (
	coord  = 1048576
	extent = 1048576
	span   = 4194304
	radius = 4194304
)

// Each call has just the signature of its chapter.
var (
	_ func(api.Point) bool                          = plane.Reach
	_ func(api.Box) bool                            = plane.Right
	_ func(api.Point, api.Point) (api.Box, error)   = plane.Of
	_ func(api.Box, api.Box) bool                   = plane.Meets
	_ func(api.Box, api.Point) bool                 = plane.Has
	_ func(api.Box, api.Box) bool                   = plane.Inside
	_ func(...api.Box) (api.Box, error)             = plane.Join
	_ func(api.Point, api.Point) (int, error)       = plane.Dist2
	_ func(api.Point, api.Box) (int, error)         = plane.Gap2
	_ func(api.Point, api.Point, int) (bool, error) = plane.Within
	_ func(api.Box) (api.Point, error)              = plane.Centre
)

// edges are the numbers at which an answer may turn, and ones far beyond, also such as wrap round in 32 or 64 bits.
func edges() []int {
	return []int{
		math.MinInt, math.MinInt + 1, -1 << 32, -span - 1, -span, -span + 1, -coord - 1, -coord, -7, -1,
		0, 1, 6, coord, coord + 1, span - 1, span, span + 1, 1 << 32, math.MaxInt - 1, math.MaxInt,
	}
}

func point(x, y int) api.Point       { return api.Point{X: x, Y: y} }
func box(x0, y0, x1, y1 int) api.Box { return api.Box{X0: x0, Y0: y0, X1: x1, Y1: y1} }
func within(n, low, high int) bool   { return n >= low && n <= high }
func reaches(n int) bool             { return within(n, -span, span) }
func isRight(b api.Box) bool {
	return reaches(b.X0) && reaches(b.Y0) && reaches(b.X1) && reaches(b.Y1) && b.X1 >= b.X0 && b.Y1 >= b.Y0
}
func inBox(b api.Box, p api.Point) bool { return within(p.X, b.X0, b.X1) && within(p.Y, b.Y0, b.Y1) }

// smallBoxes are all boxes with coordinates -2 to 2, also those that aren't right.
func smallBoxes() []api.Box {
	var list []api.Box
	for x0 := -2; x0 <= 2; x0++ {
		for y0 := -2; y0 <= 2; y0++ {
			for x1 := -2; x1 <= 2; x1++ {
				for y1 := -2; y1 <= 2; y1++ {
					list = append(list, box(x0, y0, x1, y1))
				}
			}
		}
	}
	return list
}

// smallPoints are all points with coordinates -3 to 3.
func smallPoints() []api.Point {
	var list []api.Point
	for x := -3; x <= 3; x++ {
		for y := -3; y <= 3; y++ {
			list = append(list, point(x, y))
		}
	}
	return list
}

// wrongBoxes aren't right, each for one cause alone or for several; most hold (0, 0) by their numbers.
func wrongBoxes() []api.Box {
	return []api.Box{
		box(1, 0, 0, 0), box(0, 1, 0, 0), box(1, 1, -1, -1), box(2, -5, -2, 5), box(-5, 2, 5, -2),
		box(-span-1, -1, 1, 1), box(-1, -span-1, 1, 1), box(-1, -1, span+1, 1), box(-1, -1, 1, span+1),
		box(-span-1, -span-1, span+1, span+1),
		box(span+1, 0, span+1, 0), box(0, -span-1, 0, -span-1), box(span, 0, -span, 0), box(0, span, 0, -span),
		box(math.MinInt, math.MinInt, math.MaxInt, math.MaxInt),
		box(math.MaxInt, math.MaxInt, math.MinInt, math.MinInt),
		box(math.MinInt, 0, 0, 0), box(0, math.MinInt, 0, 0), box(0, 0, math.MaxInt, 0), box(0, 0, 0, math.MaxInt),
		box(-1<<32, -1, 1, 1), box(-1, -1, 1<<32, 1), box(-1, -1, 1, 1<<32), box(-1, -1<<32, 1, 1),
		box(math.MaxInt, 0, math.MaxInt, 0), box(0, math.MinInt, 0, math.MinInt),
	}
}

// farPoints aren't in reach, by one coordinate or both.
func farPoints() []api.Point {
	var list []api.Point
	for _, n := range []int{math.MinInt, math.MinInt + 1, -1 << 32, -span - 1, span + 1, 1 << 32, math.MaxInt - 1, math.MaxInt} {
		list = append(list, point(n, 0), point(0, n), point(n, n), point(n, -n))
	}
	return list
}

func TestReach(t *testing.T) {
	for _, x := range edges() {
		for _, y := range edges() {
			want := x >= -span && x <= span && y >= -span && y <= span
			if got := plane.Reach(point(x, y)); got != want {
				t.Errorf("Reach(%d, %d): %v", x, y, got)
			}
		}
	}
}

func TestRight(t *testing.T) {
	for _, x0 := range edges() {
		for _, y0 := range edges() {
			for _, x1 := range edges() {
				for _, y1 := range edges() {
					b := box(x0, y0, x1, y1)
					if got := plane.Right(b); got != isRight(b) {
						t.Fatalf("Right(%v): %v", b, got)
					}
				}
			}
		}
	}
}

func TestRightByHand(t *testing.T) {
	for _, b := range []api.Box{{}, box(0, 0, 1, 2), box(-span, -span, span, span), box(span, span, span, span), box(-3, 5, -3, 5)} {
		if !plane.Right(b) {
			t.Errorf("%v isn't right", b)
		}
	}
	for _, b := range wrongBoxes() {
		if plane.Right(b) {
			t.Errorf("%v is right", b)
		}
	}
}

func TestOf(t *testing.T) {
	for _, c := range []struct {
		at, half api.Point
		want     api.Box
	}{
		{point(3, 4), point(1, 2), box(2, 2, 4, 6)},
		{point(0, 0), point(0, 0), box(0, 0, 0, 0)},
		{point(-7, 9), point(0, 0), box(-7, 9, -7, 9)},
		{point(-10, 20), point(3, 30), box(-13, -10, -7, 50)},
		{point(coord, coord), point(extent, extent), box(0, 0, 2097152, 2097152)},
		{point(-coord, -coord), point(extent, extent), box(-2097152, -2097152, 0, 0)},
		{point(coord, -coord), point(0, extent), box(coord, -2097152, coord, 0)},
	} {
		if got, err := plane.Of(c.at, c.half); err != nil || got != c.want {
			t.Errorf("Of(%v, %v): %v, %v", c.at, c.half, got, err)
		}
	}
}

func TestOfAtEdges(t *testing.T) {
	for _, x := range edges() {
		for _, y := range edges() {
			for _, w := range edges() {
				for _, h := range edges() {
					checkOf(t, x, y, w, h)
				}
			}
		}
	}
}

func checkOf(t *testing.T, x, y, w, h int) {
	t.Helper()
	var want api.Box
	wantErr := api.ErrRange
	if within(x, -coord, coord) && within(y, -coord, coord) && within(w, 0, extent) && within(h, 0, extent) {
		want, wantErr = box(x-w, y-h, x+w, y+h), nil
	}
	got, err := plane.Of(point(x, y), point(w, h))
	if got != want || err != wantErr {
		t.Fatalf("Of((%d, %d), (%d, %d)): %v, %v", x, y, w, h, got, err)
	}
}

func TestHas(t *testing.T) {
	for _, b := range smallBoxes() {
		for _, p := range smallPoints() {
			if got := plane.Has(b, p); got != (isRight(b) && inBox(b, p)) {
				t.Errorf("Has(%v, %v): %v", b, p, got)
			}
		}
	}
}

func TestHasAtEdges(t *testing.T) {
	whole := box(-span, -span, span, span)
	for _, x := range edges() {
		for _, y := range edges() {
			p := point(x, y)
			if got := plane.Has(whole, p); got != (reaches(x) && reaches(y)) {
				t.Errorf("Has(%v, %v): %v", whole, p, got)
			}
			for _, b := range wrongBoxes() {
				if plane.Has(b, p) {
					t.Errorf("Has(%v, %v), though it isn't right", b, p)
				}
			}
		}
	}
	for _, b := range wrongBoxes() {
		if plane.Has(b, point(b.X0, b.Y0)) || plane.Has(b, point(b.X1, b.Y1)) {
			t.Errorf("%v has its corners, though it isn't right", b)
		}
	}
}

// meetByPoints looks for a whole point that is in both, which there is for boxes that meet: their sides are at whole coordinates.
func meetByPoints(a, b api.Box) bool {
	return slices.ContainsFunc(smallPoints(), func(p api.Point) bool { return inBox(a, p) && inBox(b, p) })
}

// insideByPoints looks for a whole point of the first box that isn't in the second one.
func insideByPoints(a, b api.Box) bool {
	return isRight(a) && !slices.ContainsFunc(smallPoints(), func(p api.Point) bool { return inBox(a, p) && !inBox(b, p) })
}

func TestMeetsAndInside(t *testing.T) {
	boxes := smallBoxes()
	for _, a := range boxes {
		for _, b := range boxes {
			if !isRight(a) && !isRight(b) && a != b {
				continue // others of the kind tell the same, and they are most of all
			}
			if got := plane.Meets(a, b); got != meetByPoints(a, b) {
				t.Fatalf("Meets(%v, %v): %v", a, b, got)
			}
			if got := plane.Inside(a, b); got != insideByPoints(a, b) {
				t.Fatalf("Inside(%v, %v): %v", a, b, got)
			}
		}
	}
}

func TestMeetsByHand(t *testing.T) {
	for _, c := range []struct {
		name string
		a, b api.Box
		want bool
	}{
		{"a corner", box(0, 0, 2, 2), box(2, 2, 3, 3), true},
		{"the other corner", box(0, 0, 2, 2), box(2, -3, 3, 0), true},
		{"a side by X", box(0, 0, 2, 2), box(2, -5, 9, 5), true},
		{"a side by Y", box(0, 0, 2, 2), box(-5, 2, 5, 9), true},
		{"one apart by X", box(0, 0, 2, 2), box(3, 0, 9, 2), false},
		{"one apart by Y", box(0, 0, 2, 2), box(0, 3, 2, 9), false},
		{"one apart by both", box(0, 0, 2, 2), box(3, 3, 9, 9), false},
		{"a cross", box(-9, -1, 9, 1), box(-1, -9, 1, 9), true},
		{"one in the other", box(-9, -9, 9, 9), box(-1, -1, 1, 1), true},
		{"one point", box(4, 4, 4, 4), box(4, 4, 4, 4), true},
		{"two points", box(4, 4, 4, 4), box(4, 5, 4, 5), false},
		{"ends of the reach", box(-span, -span, span, span), box(span, span, span, span), true},
		{"both ends of the reach", box(-span, -span, -span, -span), box(span, span, span, span), false},
	} {
		if plane.Meets(c.a, c.b) != c.want || plane.Meets(c.b, c.a) != c.want {
			t.Errorf("%s: Meets(%v, %v) isn't %v", c.name, c.a, c.b, c.want)
		}
	}
}

func TestInsideByHand(t *testing.T) {
	for _, c := range []struct {
		a, b api.Box
		want bool
	}{
		{box(1, 1, 2, 2), box(0, 0, 3, 3), true},
		{box(0, 0, 3, 3), box(1, 1, 2, 2), false},
		{box(0, 0, 3, 3), box(0, 0, 3, 3), true},
		{box(0, 0, 4, 3), box(0, 0, 3, 3), false},
		{box(0, 0, 3, 4), box(0, 0, 3, 3), false},
		{box(-1, 0, 3, 3), box(0, 0, 3, 3), false},
		{box(0, -1, 3, 3), box(0, 0, 3, 3), false},
		{box(-span, -span, span, span), box(-span, -span, span, span), true},
		{box(-span, -span, span, span), box(-span, -span, span, span-1), false},
	} {
		if got := plane.Inside(c.a, c.b); got != c.want {
			t.Errorf("Inside(%v, %v): %v", c.a, c.b, got)
		}
	}
}

func TestWrongBoxesNeitherMeetNorLieInside(t *testing.T) {
	right := []api.Box{box(0, 0, 0, 0), box(-1, -1, 1, 1), box(-span, -span, span, span), box(span, 0, span, 0)}
	for _, w := range wrongBoxes() {
		for _, b := range append(wrongBoxes(), right...) {
			if plane.Meets(w, b) || plane.Meets(b, w) {
				t.Errorf("%v and %v meet, though one isn't right", w, b)
			}
			if plane.Inside(w, b) || plane.Inside(b, w) {
				t.Errorf("of %v and %v one lies in the other one, though one isn't right", w, b)
			}
		}
	}
}

func TestJoin(t *testing.T) {
	for _, c := range []struct {
		boxes []api.Box
		want  api.Box
	}{
		{[]api.Box{box(0, 0, 1, 1), box(-4, 5, 0, 6)}, box(-4, 0, 1, 6)},
		{[]api.Box{box(5, 6, 7, 8)}, box(5, 6, 7, 8)},
		{[]api.Box{box(-8, -7, -6, -5)}, box(-8, -7, -6, -5)},
		{[]api.Box{box(5, 6, 7, 8), box(5, 6, 7, 8)}, box(5, 6, 7, 8)},
		{[]api.Box{box(0, 0, 9, 9), box(3, 3, 4, 4), box(1, 2, 3, 4)}, box(0, 0, 9, 9)},
		{[]api.Box{box(3, 3, 4, 4), box(9, 0, 9, 0), box(-1, 5, 0, 5), box(2, 2, 2, 8)}, box(-1, 0, 9, 8)},
		{[]api.Box{box(-span, -span, -span, -span), box(span, span, span, span)}, box(-span, -span, span, span)},
	} {
		given := slices.Clone(c.boxes)
		got, err := plane.Join(given...)
		if err != nil || got != c.want {
			t.Errorf("Join(%v): %v, %v", c.boxes, got, err)
		}
		slices.Reverse(given)
		if back, err := plane.Join(given...); err != nil || back != c.want {
			t.Errorf("Join of %v from behind: %v, %v", c.boxes, back, err)
		}
	}
}

func TestJoinOfAllTwo(t *testing.T) {
	for _, a := range smallBoxes() {
		if !isRight(a) {
			continue
		}
		for _, b := range smallBoxes() {
			got, err := plane.Join(a, b)
			if !isRight(b) {
				if err != api.ErrForm || got != (api.Box{}) {
					t.Fatalf("Join(%v, %v): %v, %v", a, b, got, err)
				}
				continue
			}
			if err != nil || !insideByPoints(a, got) || !insideByPoints(b, got) || !isTight(got, a, b) {
				t.Fatalf("Join(%v, %v): %v, %v", a, b, got, err)
			}
		}
	}
}

// isTight tells whether each side of j is one of a or b: then no box that is less holds both.
func isTight(j, a, b api.Box) bool {
	return (j.X0 == a.X0 || j.X0 == b.X0) && (j.Y0 == a.Y0 || j.Y0 == b.Y0) &&
		(j.X1 == a.X1 || j.X1 == b.X1) && (j.Y1 == a.Y1 || j.Y1 == b.Y1)
}

func TestJoinRefuses(t *testing.T) {
	if got, err := plane.Join(); err != api.ErrNone || got != (api.Box{}) {
		t.Errorf("Join(): %v, %v", got, err)
	}
	if got, err := plane.Join([]api.Box{}...); err != api.ErrNone || got != (api.Box{}) {
		t.Errorf("Join of an empty list: %v, %v", got, err)
	}
	good := box(-9, -9, 9, 9)
	for _, w := range wrongBoxes() {
		for _, list := range [][]api.Box{{w}, {w, good}, {good, w}, {good, w, good}, {good, good, w}, {w, w}} {
			if got, err := plane.Join(list...); err != api.ErrForm || got != (api.Box{}) {
				t.Errorf("Join(%v): %v, %v", list, got, err)
			}
		}
	}
}

func TestJoinLeavesItsList(t *testing.T) {
	list := []api.Box{box(3, 3, 4, 4), box(-1, 0, 0, 9), box(5, -5, 8, 0)}
	was := slices.Clone(list)
	if _, err := plane.Join(list...); err != nil || !slices.Equal(list, was) {
		t.Errorf("Join changed its list from %v to %v (%v)", was, list, err)
	}
}

func TestDist2(t *testing.T) {
	for _, c := range []struct {
		p, q api.Point
		want int
	}{
		{point(0, 0), point(3, 4), 25},
		{point(-1, -2), point(4, 10), 169},
		{point(7, -7), point(7, -7), 0},
		{point(0, 5), point(0, -5), 100},
		{point(-6, 0), point(6, 0), 144},
		{point(-span, -span), point(span, span), 140737488355328},
		{point(span, -span), point(-span, span), 140737488355328},
		{point(-span, 0), point(span, 0), 70368744177664},
	} {
		if got, err := plane.Dist2(c.p, c.q); err != nil || got != c.want {
			t.Errorf("Dist2(%v, %v): %d, %v", c.p, c.q, got, err)
		}
		if got, err := plane.Dist2(c.q, c.p); err != nil || got != c.want {
			t.Errorf("Dist2(%v, %v): %d, %v", c.q, c.p, got, err)
		}
	}
	for _, p := range farPoints() {
		for _, q := range append(farPoints(), point(0, 0), point(span, -span), p) {
			if got, err := plane.Dist2(p, q); err != api.ErrRange || got != 0 {
				t.Errorf("Dist2(%v, %v): %d, %v", p, q, got, err)
			}
			if got, err := plane.Dist2(q, p); err != api.ErrRange || got != 0 {
				t.Errorf("Dist2(%v, %v): %d, %v", q, p, got, err)
			}
		}
	}
}

// leastByPoints is the least square of a distance to a whole point of a small box.
func leastByPoints(p api.Point, b api.Box) int {
	least := math.MaxInt
	for _, q := range smallPoints() {
		if inBox(b, q) {
			least = min(least, (p.X-q.X)*(p.X-q.X)+(p.Y-q.Y)*(p.Y-q.Y))
		}
	}
	return least
}

func TestGap2OfSmallBoxes(t *testing.T) {
	for _, b := range smallBoxes() {
		for _, p := range smallPoints() {
			want, wantErr := 0, api.ErrForm
			if isRight(b) {
				want, wantErr = leastByPoints(p, b), nil
			}
			if got, err := plane.Gap2(p, b); got != want || err != wantErr {
				t.Fatalf("Gap2(%v, %v): %d, %v", p, b, got, err)
			}
		}
	}
}

func TestGap2(t *testing.T) {
	for _, c := range []struct {
		p    api.Point
		b    api.Box
		want int
	}{
		{point(0, 0), box(3, 4, 9, 9), 25},
		{point(12, 13), box(3, 4, 9, 9), 25},
		{point(0, 13), box(3, 4, 9, 9), 25},
		{point(12, 0), box(3, 4, 9, 9), 25},
		{point(5, 0), box(3, 4, 9, 9), 16},
		{point(5, 14), box(3, 4, 9, 9), 25},
		{point(-4, 6), box(3, 4, 9, 9), 49},
		{point(10, 6), box(3, 4, 9, 9), 1},
		{point(5, 5), box(3, 4, 9, 9), 0},
		{point(3, 4), box(3, 4, 9, 9), 0},
		{point(9, 9), box(3, 4, 9, 9), 0},
		{point(-span, -span), box(span, span, span, span), 140737488355328},
		{point(span, span), box(-span, -span, -span, -span), 140737488355328},
		{point(span, -span), box(-span, -span, span, span), 0},
	} {
		if got, err := plane.Gap2(c.p, c.b); err != nil || got != c.want {
			t.Errorf("Gap2(%v, %v): %d, %v", c.p, c.b, got, err)
		}
	}
}

func TestGap2Refuses(t *testing.T) {
	for _, p := range farPoints() {
		for _, b := range append(wrongBoxes(), box(-1, -1, 1, 1), box(-span, -span, span, span)) {
			if got, err := plane.Gap2(p, b); err != api.ErrRange || got != 0 {
				t.Errorf("Gap2(%v, %v): %d, %v", p, b, got, err)
			}
		}
	}
	for _, p := range []api.Point{point(0, 0), point(3, -4), point(span, span), point(-span, span)} {
		for _, b := range wrongBoxes() {
			if got, err := plane.Gap2(p, b); err != api.ErrForm || got != 0 {
				t.Errorf("Gap2(%v, %v): %d, %v", p, b, got, err)
			}
		}
	}
}

func TestWithin(t *testing.T) {
	for _, c := range []struct {
		p, q api.Point
		r    int
		want bool
	}{
		{point(0, 0), point(3, 4), 5, true},
		{point(0, 0), point(3, 4), 4, false},
		{point(0, 0), point(3, 4), 6, true},
		{point(1, 1), point(-2, -3), 5, true},
		{point(0, 0), point(1, 1), 1, false},
		{point(0, 0), point(1, 1), 2, true},
		{point(5, 5), point(5, 5), 0, true},
		{point(5, 5), point(5, 6), 0, false},
		{point(5, 5), point(4, 5), 1, true},
		{point(0, 0), point(radius, 0), radius, true},
		{point(0, 0), point(radius, 0), radius - 1, false},
		{point(0, 0), point(0, -radius), radius, true},
		{point(0, 0), point(radius, 1), radius, false},
		{point(-1, 0), point(span, 0), radius, false},
		{point(-span, -span), point(span, span), radius, false},
		{point(span, -span), point(span, -span), radius, true},
	} {
		if got, err := plane.Within(c.p, c.q, c.r); err != nil || got != c.want {
			t.Errorf("Within(%v, %v, %d): %v, %v", c.p, c.q, c.r, got, err)
		}
		if got, err := plane.Within(c.q, c.p, c.r); err != nil || got != c.want {
			t.Errorf("Within(%v, %v, %d): %v, %v", c.q, c.p, c.r, got, err)
		}
	}
}

func TestWithinOfSmallPoints(t *testing.T) {
	for _, p := range smallPoints() {
		for _, q := range smallPoints() {
			for r := -2; r <= 10; r++ {
				d := (p.X-q.X)*(p.X-q.X) + (p.Y-q.Y)*(p.Y-q.Y)
				want, wantErr := d <= r*r, error(nil)
				if r < 0 {
					want, wantErr = false, api.ErrRange
				}
				if got, err := plane.Within(p, q, r); got != want || err != wantErr {
					t.Fatalf("Within(%v, %v, %d): %v, %v", p, q, r, got, err)
				}
			}
		}
	}
}

func TestWithinRefuses(t *testing.T) {
	for _, r := range []int{math.MinInt, -1 << 32, -radius, -1, radius + 1, 1 << 32, math.MaxInt} {
		for _, p := range []api.Point{point(0, 0), point(span, span), point(span+1, 0)} {
			if got, err := plane.Within(p, p, r); err != api.ErrRange || got {
				t.Errorf("Within(%v, %v, %d): %v, %v", p, p, r, got, err)
			}
		}
	}
	for _, p := range farPoints() {
		for _, q := range []api.Point{p, point(0, 0), point(span, span), point(-span, span)} {
			for _, r := range []int{-1, 0, 1, radius, radius + 1} {
				if got, err := plane.Within(p, q, r); err != api.ErrRange || got {
					t.Errorf("Within(%v, %v, %d): %v, %v", p, q, r, got, err)
				}
				if got, err := plane.Within(q, p, r); err != api.ErrRange || got {
					t.Errorf("Within(%v, %v, %d): %v, %v", q, p, r, got, err)
				}
			}
		}
	}
}

func TestCentre(t *testing.T) {
	for _, c := range []struct {
		b    api.Box
		want api.Point
	}{
		{box(-3, 0, 0, 5), point(-2, 2)},
		{box(0, -3, 5, 0), point(2, -2)},
		{box(0, 0, 0, 0), point(0, 0)},
		{box(-1, -1, 0, 0), point(-1, -1)},
		{box(0, 0, 1, 1), point(0, 0)},
		{box(-1, -1, 2, 2), point(0, 0)},
		{box(-2, -2, 1, 1), point(-1, -1)},
		{box(-1, -3, 1, 3), point(0, 0)},
		{box(-8, -9, -4, -4), point(-6, -7)},
		{box(4, 4, 8, 9), point(6, 6)},
		{box(-span, -span, span, span), point(0, 0)},
		{box(-span, -span, span-1, span-1), point(-1, -1)},
		{box(span, span, span, span), point(span, span)},
		{box(-span, -span, -span, -span), point(-span, -span)},
		{box(-span, span-1, 1-span, span), point(-span, span-1)},
	} {
		if got, err := plane.Centre(c.b); err != nil || got != c.want {
			t.Errorf("Centre(%v): %v, %v", c.b, got, err)
		}
	}
	for _, b := range wrongBoxes() {
		if got, err := plane.Centre(b); err != api.ErrForm || got != (api.Point{}) {
			t.Errorf("Centre(%v): %v, %v", b, got, err)
		}
	}
}

// isHalf tells whether c is the greatest number whose double is at most the sum.
func isHalf(c, sum int) bool { return 2*c <= sum && sum < 2*(c+1) }

func TestCentreOfSmallBoxes(t *testing.T) {
	for _, b := range smallBoxes() {
		got, err := plane.Centre(b)
		if !isRight(b) {
			if err != api.ErrForm || got != (api.Point{}) {
				t.Errorf("Centre(%v): %v, %v", b, got, err)
			}
			continue
		}
		if err != nil || !isHalf(got.X, b.X0+b.X1) || !isHalf(got.Y, b.Y0+b.Y1) {
			t.Errorf("Centre(%v): %v, %v", b, got, err)
		}
	}
}

// A box of Of has the point that it is around as its centre, and is right.
func TestCentreOfOf(t *testing.T) {
	for _, x := range []int{-coord, -7, -1, 0, 1, 6, coord} {
		for _, w := range []int{0, 1, 2, 7, extent - 1, extent} {
			b, err := plane.Of(point(x, -x), point(w, extent-w))
			if err != nil || !plane.Right(b) {
				t.Fatalf("Of((%d, %d), (%d, %d)): %v, %v", x, -x, w, extent-w, b, err)
			}
			if c, err := plane.Centre(b); err != nil || c != point(x, -x) {
				t.Errorf("Centre(%v): %v, %v", b, c, err)
			}
		}
	}
}
