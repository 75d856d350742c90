package near_test

import (
	"fmt"
	"math"
	"slices"
	"testing"

	"paddock/api"
	"paddock/near"
	"paddock/quad"
)

// The limits are written out here, so that the tests don't hang on the constants that the package itself uses.
const (
	coord   = 1048576 // how far a coordinate that is asked about may lie from 0
	edge    = 2097152 // how far a box's may in a tree
	longest = 4194304 // the greatest radius
)

// held is a handle with its box.
type held struct {
	handle api.Handle
	box    api.Box
}

// model lays what it holds down as it comes, and looks through all of it at each call.
type model struct {
	list []held
}

func handle(index, gen int) api.Handle { return api.Handle{Index: index, Gen: gen} }

func point(x, y int) api.Point { return api.Point{X: x, Y: y} }

func box(x0, y0, x1, y1 int) api.Box { return api.Box{X0: x0, Y0: y0, X1: x1, Y1: y1} }

// spot is the box that is one point.
func spot(x, y int) api.Box { return box(x, y, x, y) }

// middle is half of a sum, rounded down.
func middle(a, b int) int {
	sum := a + b
	if sum%2 != 0 {
		sum--
	}
	return sum / 2
}

// centre is that of its box.
func (x held) centre() api.Point {
	return point(middle(x.box.X0, x.box.X1), middle(x.box.Y0, x.box.Y1))
}

// square is that of its centre's distance from a point.
func (x held) square(p api.Point) int {
	c := x.centre()
	return (c.X-p.X)*(c.X-p.X) + (c.Y-p.Y)*(c.Y-p.Y)
}

// isWrong tells whether a point may not be asked about.
func isWrong(p api.Point) bool {
	return p.X < -coord || p.X > coord || p.Y < -coord || p.Y > coord
}

// find is the place of a handle, or -1.
func (m *model) find(h api.Handle) int {
	return slices.IndexFunc(m.list, func(x held) bool { return x.handle == h })
}

// put lays a box down behind the others, where the handle's old one is gone.
func (m *model) put(h api.Handle, b api.Box) {
	m.drop(h)
	m.list = slices.Concat(m.list, []held{{h, b}})
}

// drop leaves a handle's box out.
func (m *model) drop(h api.Handle) {
	m.list = slices.DeleteFunc(slices.Clone(m.list), func(x held) bool { return x.handle == h })
}

// inOrder is all handles by a key's numbers: one comes ahead of another one if the first number that differs is less.
func (m *model) inOrder(key func(x held) []int) []api.Handle {
	own := slices.Clone(m.list)
	slices.SortFunc(own, func(a, b held) int { return slices.Compare(key(a), key(b)) })
	var list []api.Handle
	for _, x := range own {
		list = append(list, x.handle)
	}
	return list
}

// radius is what Radius is asked to answer.
func (m *model) radius(p api.Point, r int) ([]api.Handle, error) {
	if isWrong(p) || r < 0 || r > longest {
		return nil, api.ErrRange
	}
	all := m.inOrder(func(x held) []int { return []int{x.handle.Index, x.handle.Gen} })
	return slices.DeleteFunc(all, func(h api.Handle) bool { return m.list[m.find(h)].square(p) > r*r }), nil
}

// nearest is what Nearest is asked to answer.
func (m *model) nearest(p api.Point, k int) ([]api.Handle, error) {
	if isWrong(p) || k < 0 {
		return nil, api.ErrRange
	}
	all := m.inOrder(func(x held) []int { return []int{x.square(p), x.handle.Index, x.handle.Gen} })
	return all[:min(k, len(all))], nil
}

// around is what Around is asked to answer.
func (m *model) around(h api.Handle, r int) ([]api.Handle, error) {
	i := m.find(h)
	if i < 0 {
		return nil, api.ErrNone
	}
	list, err := m.radius(m.list[i].centre(), r)
	return slices.DeleteFunc(list, func(o api.Handle) bool { return o == h }), err
}

// closest is what Closest is asked to answer.
func (m *model) closest(p api.Point, but []api.Handle) (api.Handle, bool, error) {
	all, err := m.nearest(p, len(m.list))
	if err != nil {
		return api.Handle{}, false, err
	}
	for _, h := range all {
		if !slices.Contains(but, h) {
			return h, true, nil
		}
	}
	return api.Handle{}, false, nil
}

// sameRadius holds Radius against the model.
func sameRadius(t *testing.T, q *quad.Tree, m *model, p api.Point, r int) {
	t.Helper()
	want, wantErr := m.radius(p, r)
	if got, err := near.Radius(q, p, r); err != wantErr || !slices.Equal(got, want) {
		t.Fatalf("of %v: Radius(%v, %d): %v, %v; asked is %v, %v", m.list, p, r, got, err, want, wantErr)
	}
}

// sameNearest holds Nearest against the model.
func sameNearest(t *testing.T, q *quad.Tree, m *model, p api.Point, k int) {
	t.Helper()
	want, wantErr := m.nearest(p, k)
	if got, err := near.Nearest(q, p, k); err != wantErr || !slices.Equal(got, want) {
		t.Fatalf("of %v: Nearest(%v, %d): %v, %v; asked is %v, %v", m.list, p, k, got, err, want, wantErr)
	}
}

// sameAround holds Around against the model.
func sameAround(t *testing.T, q *quad.Tree, m *model, h api.Handle, r int) {
	t.Helper()
	want, wantErr := m.around(h, r)
	if got, err := near.Around(q, h, r); err != wantErr || !slices.Equal(got, want) {
		t.Fatalf("of %v: Around(%v, %d): %v, %v; asked is %v, %v", m.list, h, r, got, err, want, wantErr)
	}
}

// sameClosest holds Closest against the model.
func sameClosest(t *testing.T, q *quad.Tree, m *model, p api.Point, but ...api.Handle) {
	t.Helper()
	want, wantHas, wantErr := m.closest(p, but)
	if got, has, err := near.Closest(q, p, but...); err != wantErr || got != want || has != wantHas {
		t.Fatalf("of %v: Closest(%v, %v): %v, %v, %v; asked is %v, %v, %v", m.list, p, but, got, has, err, want, wantHas, wantErr)
	}
}

// radii are some around the distance of each box from a point, so that each is asked for just within and just beyond, and the least and greatest ones.
func (m *model) radii(p api.Point) []int {
	list := []int{-1, 0, 1, longest, longest + 1}
	for _, x := range m.list {
		r := int(math.Sqrt(float64(x.square(p))))
		list = append(list, r-1, r, r+1)
	}
	slices.Sort(list)
	return slices.Compact(list)
}

// same holds all calls against the model, at one point.
func same(t *testing.T, q *quad.Tree, m *model, p api.Point) {
	t.Helper()
	for _, r := range m.radii(p) {
		sameRadius(t, q, m, p, r)
	}
	all, _ := m.nearest(p, len(m.list))
	for k := -1; k <= len(m.list)+1; k++ {
		sameNearest(t, q, m, p, k)
		sameClosest(t, q, m, p, all[:min(max(k, 0), len(all))]...)
	}
}

// sameAll holds Around of each handle, and all calls at some points, against the model.
func sameAll(t *testing.T, q *quad.Tree, m *model, points ...api.Point) {
	t.Helper()
	for _, p := range points {
		same(t, q, m, p)
	}
	for _, x := range m.list {
		for _, r := range m.radii(x.centre()) {
			sameAround(t, q, m, x.handle, r)
		}
	}
}

// puts puts a box in both.
func puts(t *testing.T, q *quad.Tree, m *model, h api.Handle, b api.Box) {
	t.Helper()
	if err := q.Put(h, b); err != nil {
		t.Fatalf("Put(%v, %v): %v", h, b, err)
	}
	m.put(h, b)
}

// drops drops a handle of both.
func drops(t *testing.T, q *quad.Tree, m *model, h api.Handle) {
	t.Helper()
	if err := q.Drop(h); err != nil {
		t.Fatalf("Drop(%v): %v", h, err)
	}
	m.drop(h)
}

// treeOf is a tree with these boxes, of the handles (0, 1), (1, 1) and on, and its model.
func treeOf(t *testing.T, boxes ...api.Box) (*quad.Tree, *model) {
	t.Helper()
	q, m := quad.New(), &model{}
	for i, b := range boxes {
		puts(t, q, m, handle(i, 1), b)
	}
	return q, m
}

// firsts are the handles (i, 1), of these numbers.
func firsts(numbers ...int) []api.Handle {
	var list []api.Handle
	for _, i := range numbers {
		list = append(list, handle(i, 1))
	}
	return list
}

// drawer answers numbers by a fixed rule, from 0 on and below n.
func drawer(seed uint64) func(n int) int {
	rule := seed*2 + 5
	return func(n int) int {
		rule = rule*6364136223846793005 + 1442695040888963407
		return int((rule >> 33) % uint64(n))
	}
}

// drawnBox is one whose centre lies within a width of a point, of any size that fits a tree.
func drawnBox(draw func(n int) int, at api.Point, wide int) api.Box {
	x, y := at.X+draw(2*wide+1)-wide, at.Y+draw(2*wide+1)-wide
	x, y = min(max(x, -edge), edge), min(max(y, -edge), edge)
	half := 1 << draw(22)
	w, h := draw(min(half, edge-max(x, -x))+1), draw(min(half, edge-max(y, -y))+1)
	b := box(x-w, y-h, x+w, y+h)
	// Of an odd width the centre is rounded.
	if draw(2) == 0 && b.X1 < edge {
		b.X1++
	}
	if draw(2) == 0 && b.Y1 < edge {
		b.Y1++
	}
	return b
}

// drawnPoint is one that may be asked about, within a width of a point.
func drawnPoint(draw func(n int) int, at api.Point, wide int) api.Point {
	x, y := at.X+draw(2*wide+1)-wide, at.Y+draw(2*wide+1)-wide
	return point(min(max(x, -coord), coord), min(max(y, -coord), coord))
}

// shuffled is a list in another order.
func shuffled[T any](draw func(n int) int, list []T) []T {
	own := slices.Clone(list)
	for i := range own {
		k := i + draw(len(own)-i)
		own[i], own[k] = own[k], own[i]
	}
	return own
}

// edgeNumbers rise; they lie on both sides of the ends of all ranges and of all numbers, and many are the same, cut to fewer bits, or have a square that is.
func edgeNumbers() []int {
	return []int{
		math.MinInt, math.MinInt + 1, -1 << 32, -longest - 1, -longest, -edge - 1, -edge, -coord - 1, -coord, -coord + 1, -1,
		0, 1, coord - 1, coord, coord + 1, edge, edge + 1, longest - 1, longest, longest + 1, 1 << 32, 1<<32 + 5, math.MaxInt - 1, math.MaxInt,
	}
}

// oddHandles are in order; they lie on both sides of all limits, and differ by Index or by Gen alone.
func oddHandles() []api.Handle {
	numbers := []int{math.MinInt, math.MinInt + 1, -1 << 32, -128, -1, 0, 1, 2, 127, 128, 1 << 30, 1 << 32, 1<<32 + 1, math.MaxInt - 1, math.MaxInt}
	var list []api.Handle
	for _, i := range numbers {
		for _, g := range numbers {
			list = append(list, handle(i, g))
		}
	}
	return list
}

// TestModel holds the model's own answers against ones that are written down.
func TestModel(t *testing.T) {
	_, m := treeOf(t, spot(3, 4), box(-3, 0, 0, 5), spot(0, 0), spot(0, 5))
	list, _ := m.nearest(point(0, 0), 9)
	if got, want := fmt.Sprint(list), "[{2 1} {1 1} {0 1} {3 1}]"; got != want {
		t.Fatalf("the model answers %v; asked is %v", got, want)
	}
}
