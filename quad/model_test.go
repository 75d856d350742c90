package quad_test

import (
	"fmt"
	"math"
	"slices"
	"testing"

	"paddock/api"
	"paddock/quad"
)

// The limits are written out here, so that the tests don't hang on the constants that the package itself uses.
const (
	reach = 4194304 // how far a coordinate may lie from 0
	edge  = 2097152 // how far a box's may in a tree
	deep  = 8       // the greatest depth
)

// held is a handle with its box.
type held struct {
	handle api.Handle
	box    api.Box
}

// model lays what it holds down as it comes, and looks through all of it at each call.
type model struct {
	list []held
}

func handle(index, gen int) api.Handle { return api.Handle{Index: index, Gen: gen} }

func box(x0, y0, x1, y1 int) api.Box { return api.Box{X0: x0, Y0: y0, X1: x1, Y1: y1} }

func cell(depth, x, y int) quad.Cell { return quad.Cell{Depth: depth, X: x, Y: y} }

// sides are those of the cells, by depth.
func sides() []int {
	return []int{4194304, 2097152, 1048576, 524288, 262144, 131072, 65536, 32768, 16384}
}

// errorOf is what is asked of a box: wrong ones first, and then those that lie elsewhere.
func errorOf(b api.Box) error {
	numbers := []int{b.X0, b.Y0, b.X1, b.Y1}
	if slices.Min(numbers) < -reach || slices.Max(numbers) > reach || b.X0 > b.X1 || b.Y0 > b.Y1 {
		return api.ErrForm
	}
	if slices.Min(numbers) < -edge || slices.Max(numbers) > edge {
		return api.ErrRange
	}
	return nil
}

// middle is half of a sum, rounded down.
func middle(a, b int) int {
	sum := a + b
	if sum%2 != 0 {
		sum--
	}
	return sum / 2
}

// columnOf goes down from the whole square, half by half, to the column that a coordinate lies in; beyond the end it is the last one.
func columnOf(n, depth int) int {
	low, at := -edge, 0
	for d := range depth {
		at *= 2
		if half := sides()[d+1]; n >= low+half {
			low += half
			at++
		}
	}
	return at
}

// cellOf is the cell of a box that has one.
func cellOf(b api.Box) quad.Cell {
	depth := 0
	for d, side := range sides() {
		if side >= b.X1-b.X0 && side >= b.Y1-b.Y0 {
			depth = d
		}
	}
	return cell(depth, columnOf(middle(b.X0, b.X1), depth), columnOf(middle(b.Y0, b.Y1), depth))
}

// upTo are a cell and all cells above it, the whole square last.
func upTo(c quad.Cell) []quad.Cell {
	list := []quad.Cell{c}
	for c.Depth > 0 {
		c = cell(c.Depth-1, c.X>>1, c.Y>>1)
		list = append(list, c)
	}
	return list
}

// meet tells whether boxes that are right have a point in common: then the greater low coordinates are such a point's.
func meet(a, b api.Box) bool {
	return max(a.X0, b.X0) <= min(a.X1, b.X1) && max(a.Y0, b.Y0) <= min(a.Y1, b.Y1)
}

// earlier tells whether a handle comes ahead of another one.
func earlier(a, b api.Handle) bool {
	return a.Index < b.Index || a.Index == b.Index && a.Gen < b.Gen
}

// sorted is a list of handles, each there once, in order.
func sorted(list []api.Handle) []api.Handle {
	var own []api.Handle
	for _, h := range list {
		i := 0
		for i < len(own) && earlier(own[i], h) {
			i++
		}
		own = slices.Insert(own, i, h)
	}
	return own
}

// sortedCells is a list of cells in order.
func sortedCells(list []quad.Cell) []quad.Cell {
	own := slices.Clone(list)
	slices.SortFunc(own, func(a, b quad.Cell) int {
		return slices.Compare([]int{a.Depth, a.Y, a.X}, []int{b.Depth, b.Y, b.X})
	})
	return own
}

// find is the place of a handle, or -1.
func (m *model) find(h api.Handle) int {
	return slices.IndexFunc(m.list, func(x held) bool { return x.handle == h })
}

// put lays a box down behind the others, where the handle's old one is gone.
func (m *model) put(h api.Handle, b api.Box) {
	m.drop(h)
	m.list = slices.Concat(m.list, []held{{h, b}})
}

// drop leaves a handle's box out.
func (m *model) drop(h api.Handle) error {
	i := m.find(h)
	if i < 0 {
		return api.ErrNone
	}
	m.list = slices.Concat(m.list[:i], m.list[i+1:])
	return nil
}

// box is a handle's box.
func (m *model) box(h api.Handle) (api.Box, bool) {
	if i := m.find(h); i >= 0 {
		return m.list[i].box, true
	}
	return api.Box{}, false
}

// handles are those of the boxes that are asked for, in order.
func (m *model) handles(asked func(b api.Box) bool) []api.Handle {
	var list []api.Handle
	for _, x := range m.list {
		if asked(x.box) {
			list = append(list, x.handle)
		}
	}
	return sorted(list)
}

// nodes are the whole square, and each box's cell with all above it, in order.
func (m *model) nodes() []quad.Cell {
	list := []quad.Cell{{}}
	for _, x := range m.list {
		for _, c := range upTo(cellOf(x.box)) {
			if !slices.Contains(list, c) {
				list = append(list, c)
			}
		}
	}
	return sortedCells(list)
}

// walk is what a walk asks and tells, in order: a node is asked of if true was answered of all above it, its boxes are told if it was answered of it too.
func (m *model) walk(enter func(c quad.Cell) bool) (asked []quad.Cell, told []api.Handle) {
	entered := func(c quad.Cell) bool {
		return !slices.ContainsFunc(upTo(c), func(c quad.Cell) bool { return !enter(c) })
	}
	for _, c := range m.nodes() {
		if c.Depth == 0 || entered(upTo(c)[1]) {
			asked = append(asked, c)
		}
	}
	return asked, m.handles(func(b api.Box) bool { return entered(cellOf(b)) })
}

// sameMeeting holds Meeting of a box that is right against the model.
func sameMeeting(t *testing.T, when string, q *quad.Tree, m *model, b api.Box) {
	t.Helper()
	want := m.handles(func(x api.Box) bool { return meet(x, b) })
	if got, err := q.Meeting(b); err != nil || !slices.Equal(got, want) {
		t.Fatalf("%s: Meeting(%v): %v, %v; asked is %v", when, b, got, err, want)
	}
}

// sameWalk holds Walk against the model, whatever enter answers; of one cell it always answers the same.
func sameWalk(t *testing.T, when string, q *quad.Tree, m *model, enter func(c quad.Cell) bool) {
	t.Helper()
	var asked []quad.Cell
	var told []api.Handle
	q.Walk(func(c quad.Cell) bool {
		asked = append(asked, c)
		return enter(c)
	}, func(h api.Handle, b api.Box) {
		told = append(told, h)
		if want, has := m.box(h); !has || b != want {
			t.Fatalf("%s: Walk tells %v of %v; asked is %v, %v", when, b, h, want, has)
		}
	})
	wantAsked, wantTold := m.walk(enter)
	if got := sortedCells(asked); !slices.Equal(got, wantAsked) {
		t.Fatalf("%s: Walk asks of %v; asked is %v", when, got, wantAsked)
	}
	if got := sorted(told); !slices.Equal(got, wantTold) {
		t.Fatalf("%s: Walk tells of %v; asked is %v", when, got, wantTold)
	}
}

// same holds what a tree answers without a change against the model; strangers are handles that may have no box.
func same(t *testing.T, when string, q *quad.Tree, m *model, strangers ...api.Handle) {
	t.Helper()
	all, nodes := m.handles(func(api.Box) bool { return true }), m.nodes()
	if got := q.Handles(); !slices.Equal(got, all) {
		t.Fatalf("%s: Handles: %v; asked is %v", when, got, all)
	}
	if got := q.Nodes(); !slices.Equal(got, nodes) {
		t.Fatalf("%s: Nodes: %v; asked is %v", when, got, nodes)
	}
	if got := q.Len(); got != len(m.list) {
		t.Fatalf("%s: Len: %d; asked is %d", when, got, len(m.list))
	}
	for _, h := range slices.Concat(all, strangers) {
		want, wantHas := m.box(h)
		if got, has := q.Box(h); got != want || has != wantHas {
			t.Fatalf("%s: Box(%v): %v, %v; asked is %v, %v", when, h, got, has, want, wantHas)
		}
	}
	sameMeeting(t, when, q, m, box(-reach, -reach, reach, reach))
	for _, x := range m.list[:min(len(m.list), 8)] {
		sameMeeting(t, when, q, m, x.box)
		sameMeeting(t, when, q, m, box(x.box.X1, x.box.Y0, x.box.X1, x.box.Y0))
	}
	sameWalk(t, when, q, m, func(quad.Cell) bool { return true })
}

// puts puts a box in both, and holds the one against the other.
func puts(t *testing.T, q *quad.Tree, m *model, h api.Handle, b api.Box) {
	t.Helper()
	want := errorOf(b)
	if want == nil {
		m.put(h, b)
	}
	if err := q.Put(h, b); err != want {
		t.Fatalf("Put(%v, %v): %v; asked is %v", h, b, err, want)
	}
}

// drops drops a handle of both, and holds the one against the other.
func drops(t *testing.T, q *quad.Tree, m *model, h api.Handle) {
	t.Helper()
	want := m.drop(h)
	if err := q.Drop(h); err != want {
		t.Fatalf("Drop(%v): %v; asked is %v", h, err, want)
	}
}

// treeOf is a tree with these boxes, of the handles (0, 1), (1, 1) and on, and its model.
func treeOf(t *testing.T, boxes ...api.Box) (*quad.Tree, *model) {
	t.Helper()
	q, m := quad.New(), &model{}
	for i, b := range boxes {
		puts(t, q, m, handle(i, 1), b)
	}
	same(t, fmt.Sprint("a tree of ", boxes), q, m)
	return q, m
}

// drawer answers numbers by a fixed rule, from 0 on and below n.
func drawer(seed uint64) func(n int) int {
	rule := seed*2 + 5
	return func(n int) int {
		rule = rule*6364136223846793005 + 1442695040888963407
		return int((rule >> 33) % uint64(n))
	}
}

// drawnBox is one that has a cell, of any depth; some lie where cells meet.
func drawnBox(draw func(n int) int) api.Box {
	side := sides()[draw(deep+1)]
	ends := func() (int, int) {
		low := draw(2*edge+1) - edge
		if draw(2) == 0 {
			low = low/side*side - draw(3) + 1
		}
		low = min(max(low, -edge), edge)
		wide := draw(side + 1)
		if draw(2) == 0 {
			wide = max(side-draw(3)+1, 0)
		}
		return low, min(low+wide, edge)
	}
	var b api.Box
	b.X0, b.X1 = ends()
	b.Y0, b.Y1 = ends()
	return b
}

// shuffled is a list in another order.
func shuffled[T any](draw func(n int) int, list []T) []T {
	own := slices.Clone(list)
	for i := range own {
		k := i + draw(len(own)-i)
		own[i], own[k] = own[k], own[i]
	}
	return own
}

// edgeNumbers rise; they lie on both sides of the ends of reach, of the square and of all numbers, and many are the same, cut to fewer bits.
func edgeNumbers() []int {
	return []int{
		math.MinInt, math.MinInt + 1, -1 << 32, -reach - 1, -reach, -edge - 1, -edge, -edge + 1, -1,
		0, 1, edge - 1, edge, edge + 1, reach, reach + 1, 1<<32 + 5, math.MaxInt - 1, math.MaxInt,
	}
}

// oddHandles are in order; they lie on both sides of all limits, and differ by Index or by Gen alone.
func oddHandles() []api.Handle {
	numbers := []int{math.MinInt, math.MinInt + 1, -1 << 32, -128, -1, 0, 1, 2, 127, 128, 1 << 30, 1 << 32, 1<<32 + 1, math.MaxInt - 1, math.MaxInt}
	var list []api.Handle
	for _, i := range numbers {
		for _, g := range numbers {
			list = append(list, handle(i, g))
		}
	}
	return list
}
