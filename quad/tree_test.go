package quad_test

import (
	"fmt"
	"slices"
	"testing"

	"paddock/api"
	"paddock/quad"
)

func TestTreeByHand(t *testing.T) {
	a, b, c := handle(2, 1), handle(1, 9), handle(1, 4) // c, b, a, in their order
	q := quad.New()
	step := func(err, wantErr error, handles []api.Handle, nodes ...quad.Cell) {
		t.Helper()
		if err != wantErr {
			t.Fatalf("%v; asked is %v", err, wantErr)
		}
		if got := q.Handles(); !slices.Equal(got, handles) {
			t.Fatalf("Handles: %v; asked is %v", got, handles)
		}
		if got := q.Nodes(); !slices.Equal(got, nodes) {
			t.Fatalf("Nodes: %v; asked is %v", got, nodes)
		}
		if got := q.Len(); got != len(handles) {
			t.Fatalf("Len: %d; asked is %d", got, len(handles))
		}
	}
	all, world := []api.Handle{c, b, a}, cell(0, 0, 0)
	step(q.Drop(a), api.ErrNone, nil, world)
	step(q.Put(a, box(-2097152, -5, 2097152, 5)), nil, []api.Handle{a}, world)
	step(q.Put(b, box(-1048576, -2097152, 0, 0)), nil, []api.Handle{b, a}, world, cell(1, 0, 0))
	step(q.Put(c, box(-1, 0, 1048576, 0)), nil, all, world, cell(1, 0, 0), cell(1, 1, 1))
	step(q.Put(a, box(1048575, -2, 1572864, -1)), nil, all, world, cell(1, 0, 0), cell(1, 1, 0), cell(1, 1, 1), cell(2, 3, 1))
	step(q.Put(b, box(-2097153, 0, 0, 0)), api.ErrRange, all, world, cell(1, 0, 0), cell(1, 1, 0), cell(1, 1, 1), cell(2, 3, 1))
	step(q.Put(b, box(1, 0, 0, 0)), api.ErrForm, all, world, cell(1, 0, 0), cell(1, 1, 0), cell(1, 1, 1), cell(2, 3, 1))
	step(q.Drop(a), nil, []api.Handle{c, b}, world, cell(1, 0, 0), cell(1, 1, 1))
	step(q.Drop(a), api.ErrNone, []api.Handle{c, b}, world, cell(1, 0, 0), cell(1, 1, 1))
	step(q.Put(b, box(-2097152, 0, 0, 5)), nil, []api.Handle{c, b}, world, cell(1, 0, 1), cell(1, 1, 1))
	step(q.Put(a, box(-2097152, 7, 0, 8)), nil, all, world, cell(1, 0, 1), cell(1, 1, 1)) // b's cell
	step(q.Drop(b), nil, []api.Handle{c, a}, world, cell(1, 0, 1), cell(1, 1, 1))
	step(q.Drop(c), nil, []api.Handle{a}, world, cell(1, 0, 1))
	step(q.Drop(a), nil, nil, world)
}

// TestNodesAboveOne writes all cells down that one small box makes nodes.
func TestNodesAboveOne(t *testing.T) {
	q, m := treeOf(t, box(2097152, -2097152, 2097152, -2097152))
	want := []quad.Cell{{}, cell(1, 1, 0), cell(2, 3, 0), cell(3, 7, 0), cell(4, 15, 0), cell(5, 31, 0), cell(6, 63, 0), cell(7, 127, 0), cell(8, 255, 0)}
	if got := q.Nodes(); !slices.Equal(got, want) {
		t.Fatalf("Nodes: %v; asked is %v", got, want)
	}
	drops(t, q, m, handle(0, 1))
	same(t, "the box gone", q, m, handle(0, 1))
}

func TestMeetingByHand(t *testing.T) {
	q, _ := treeOf(t, box(0, 0, 10, 10), box(10, 10, 20, 20), box(-16384, -3, -1, 3), box(-2097152, -2097152, 2097152, 2097152))
	for _, c := range []struct {
		box  api.Box
		want []int
		err  error
	}{
		{box(10, 10, 10, 10), []int{0, 1, 3}, nil}, // the corner alone
		{box(11, 5, 30, 9), []int{3}, nil},
		{box(10, 5, 30, 9), []int{0, 3}, nil},
		{box(10, 5, 30, 10), []int{0, 1, 3}, nil},
		{box(-1, 0, 0, 0), []int{0, 2, 3}, nil},
		{box(-9, 4, -1, 9), []int{3}, nil},
		{box(2097152, 2097152, 4194304, 4194304), []int{3}, nil},
		{box(2097153, 2097152, 4194304, 4194304), nil, nil},
		{box(-4194304, -4194304, 4194304, 4194304), []int{0, 1, 2, 3}, nil},
		{box(-4194305, -4194304, 4194304, 4194304), nil, api.ErrForm},
		{box(0, 0, 0, 4194305), nil, api.ErrForm},
		{box(1, 0, 0, 0), nil, api.ErrForm},
		{box(0, 1, 0, 0), nil, api.ErrForm},
	} {
		var want []api.Handle
		for _, i := range c.want {
			want = append(want, handle(i, 1))
		}
		if got, err := q.Meeting(c.box); !slices.Equal(got, want) || err != c.err {
			t.Errorf("Meeting(%v): %v, %v; asked is %v, %v", c.box, got, err, want, c.err)
		}
	}
}

func TestNewIsEmpty(t *testing.T) {
	a, b := quad.New(), quad.New()
	if a == b {
		t.Fatal("New answers one tree twice")
	}
	m, none := &model{}, &model{}
	same(t, "a new tree", a, m, api.Handle{}, handle(0, 1))
	drops(t, a, m, api.Handle{})
	drops(t, a, m, handle(0, 1))
	puts(t, a, m, api.Handle{}, api.Box{})
	puts(t, a, m, handle(0, 1), box(-7, -7, 90000, 7))
	same(t, "a tree", a, m)
	same(t, "another tree", b, none, api.Handle{}, handle(0, 1))
	same(t, "a third tree", quad.New(), none, api.Handle{}, handle(0, 1))
}

// TestPutAtEdges tries edge numbers at all four places, of a handle without a box and of one that has one; what is refused changes nothing.
func TestPutAtEdges(t *testing.T) {
	numbers := []int{-1 << 63, -reach - 1, -reach, -edge - 1, -edge, 0, 5, edge, edge + 1, reach, reach + 1, 1<<63 - 1}
	for _, x0 := range numbers {
		for _, y0 := range numbers {
			for _, x1 := range numbers {
				for _, y1 := range numbers {
					b := box(x0, y0, x1, y1)
					q, m := quad.New(), &model{}
					puts(t, q, m, handle(0, 1), box(-9, -9, 1, 1))
					puts(t, q, m, handle(1, 1), box(1, 1, 5, 70000))
					puts(t, q, m, handle(0, 1), b)
					same(t, fmt.Sprint("Put of ", b), q, m)
					puts(t, q, m, handle(0, 2), b)
					same(t, fmt.Sprint("Put of ", b, ", once more"), q, m, handle(0, 2))
				}
			}
		}
	}
}

// TestMeetingAtEdges asks for all edge boxes, right and wrong ones, of a tree with boxes at its edges.
func TestMeetingAtEdges(t *testing.T) {
	q, m := treeOf(t, box(-edge, -edge, edge, edge), box(-edge, -edge, -edge, -edge), box(edge, edge, edge, edge), box(-edge, edge-1, -edge+1, edge),
		box(edge-1, -edge, edge, 0), box(0, 0, 0, 0), box(-1, -1, 0, 0), box(1, 1, edge-1, edge-1), box(-1, -edge, 1, edge))
	all := edgeNumbers()
	for _, x0 := range all {
		for _, y0 := range all {
			for _, x1 := range all {
				for _, y1 := range all {
					b := box(x0, y0, x1, y1)
					if errorOf(b) != api.ErrForm {
						sameMeeting(t, "at edges", q, m, b)
					} else if got, err := q.Meeting(b); err != api.ErrForm || len(got) != 0 {
						t.Fatalf("Meeting(%v): %v, %v", b, got, err)
					}
				}
			}
		}
	}
}

// TestMeetingBeyondCells: a box is found as far beyond its cell as it goes, and not a step further.
func TestMeetingBeyondCells(t *testing.T) {
	for depth, side := range sides() {
		for line := -edge + side; line < edge; line += max(side, 16384*5) {
			for _, b := range []api.Box{box(line-side/2, 3, line+side/2, 3), box(line-1-side/2, 3, line-1+side/2, 3), box(3, line-side/2, 3, line+side/2)} {
				q, m := treeOf(t, b)
				if c := cellOf(b); c.Depth != depth {
					t.Fatalf("%v has the cell %v", b, c)
				}
				for _, n := range []int{-1, 0, 1} {
					sameMeeting(t, "beyond", q, m, box(b.X1+n, 3, b.X1+n, 3))
					sameMeeting(t, "beyond", q, m, box(b.X0+n, 3, b.X0+n, 3))
					sameMeeting(t, "beyond", q, m, box(3, b.Y1+n, 3, b.Y1+n))
					sameMeeting(t, "beyond", q, m, box(3, b.Y0+n, 3, b.Y0+n))
				}
			}
		}
	}
}

// TestMeetingOfMany asks for boxes of all sizes of a full tree.
func TestMeetingOfMany(t *testing.T) {
	for seed := range uint64(6) {
		draw := drawer(seed + 70)
		q, m := quad.New(), &model{}
		for i := range 120 {
			puts(t, q, m, handle(draw(40), i), drawnBox(draw))
		}
		same(t, "many", q, m)
		for range 1500 {
			sameMeeting(t, "many", q, m, drawnBox(draw))
		}
		for _, x := range m.list {
			b := x.box
			for _, near := range []api.Box{box(b.X1, b.Y1, b.X1+1, b.Y1), box(b.X1+1, b.Y0, b.X1+9, b.Y1), box(b.X0-7, b.Y0-5, b.X0-1, b.Y1), box(b.X0, b.Y0-5, b.X1, b.Y0-1), box(b.X0, b.Y1, b.X0, b.Y1+4)} {
				sameMeeting(t, "many", q, m, near)
			}
		}
	}
}

// TestOddHandles: handles that differ by one number alone are different ones, that of no fields is one too.
func TestOddHandles(t *testing.T) {
	all := oddHandles()
	q, m := quad.New(), &model{}
	for i, h := range shuffled(drawer(2), all) {
		puts(t, q, m, h, box(i%3, 1, i%3+2, 1+40000*(i%2)))
	}
	same(t, "odd handles", q, m)
	if got := q.Handles(); !slices.Equal(got, all) {
		t.Fatalf("Handles: %v", got)
	}
	for i, h := range shuffled(drawer(3), all) {
		drops(t, q, m, h)
		if i%20 == 0 || i == len(all)-1 {
			same(t, "odd handles", q, m, h, handle(3, 3))
		}
	}
}

// TestManyBoxes: there is no limit to how many boxes there are, of one cell or of many.
func TestManyBoxes(t *testing.T) {
	const n = 3000
	q := quad.New()
	for i := range n {
		if q.Put(handle(i, 1), box(5, 5, 5, 5)) != nil || q.Put(handle(i, 2), box(500*i, -500*i, 500*i+1, -500*i+1)) != nil {
			t.Fatal("a box is refused")
		}
	}
	if got, err := q.Meeting(box(5, 5, 5, 5)); err != nil || len(got) != n || q.Len() != 2*n {
		t.Fatalf("%d boxes of %d meet (5, 5); asked are %d of %d; %v", len(got), q.Len(), n, 2*n, err)
	}
	for i, h := range q.Handles() {
		if h != handle(i/2, 1+i%2) {
			t.Fatalf("handle %d is %v", i, h)
		}
		if err := q.Drop(h); err != nil {
			t.Fatal(err)
		}
	}
	same(t, "many boxes gone", q, &model{}, handle(0, 1))
}
