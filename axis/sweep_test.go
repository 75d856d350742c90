package axis_test

import (
	"fmt"
	"slices"
	"testing"

	"paddock/api"
	"paddock/axis"
)

func TestSweepByHand(t *testing.T) {
	a, b, c := handle(2, 1), handle(1, 9), handle(1, 4) // c, b, a, in their order
	cb, ca, ba := api.Pair{A: c, B: b}, api.Pair{A: c, B: a}, api.Pair{A: b, B: a}
	s := axis.NewSweep()
	step := func(err, wantErr error, long int, pairs ...api.Pair) {
		t.Helper()
		if err != wantErr {
			t.Fatalf("%v; asked is %v", err, wantErr)
		}
		if got := s.Pairs(); !slices.Equal(got, pairs) {
			t.Fatalf("Pairs: %v; asked is %v", got, pairs)
		}
		for _, p := range []api.Pair{cb, ca, ba} {
			if got := slices.Contains(pairs, p); s.Meet(p.A, p.B) != got || s.Meet(p.B, p.A) != got {
				t.Fatalf("Meet of %v isn't %v", p, got)
			}
		}
		if got := s.Len(); got != long {
			t.Fatalf("Len: %d; asked is %d", got, long)
		}
	}
	step(s.Drop(a), api.ErrNone, 0)
	step(s.Put(a, api.Box{X0: 13, Y0: 13, X1: 17, Y1: 17}), nil, 1)
	step(s.Put(b, api.Box{X0: 15, Y0: 15, X1: 17, Y1: 17}), nil, 2, ba)
	step(s.Put(c, api.Box{X0: 17, Y0: 17, X1: 18, Y1: 18}), nil, 3, cb, ca, ba)              // the corner alone
	step(s.Put(a, api.Box{X0: 13, Y0: 13, X1: 14, Y1: 17}), nil, 3, cb)                      // by Y alone
	step(s.Put(b, api.Box{X0: 13, Y0: 18, X1: 17, Y1: 18}), nil, 3, cb)                      // a's by X alone
	step(s.Put(c, api.Box{X0: 18, Y0: 18, X1: 17, Y1: 18}), api.ErrForm, 3, cb)              // by X not right
	step(s.Put(c, api.Box{X0: 17, Y0: 18, X1: 18, Y1: 17}), api.ErrForm, 3, cb)              // by Y not right
	step(s.Put(a, api.Box{X0: 14, Y0: 17, X1: 17, Y1: 4194304}), nil, 3, cb, ca, ba)         // up to the end
	step(s.Put(a, api.Box{X0: 14, Y0: 17, X1: 17, Y1: 4194305}), api.ErrForm, 3, cb, ca, ba) // beyond
	step(s.Drop(b), nil, 2, ca)
	step(s.Drop(b), api.ErrNone, 2, ca)
	step(s.Drop(handle(1, 5)), api.ErrNone, 2, ca)
	step(s.Drop(a), nil, 1)
	step(s.Put(b, api.Box{X0: 18, Y0: 18, X1: 18, Y1: 18}), nil, 2, cb)
	step(s.Drop(c), nil, 1)
	step(s.Drop(b), nil, 0)
}

func TestNewSweepIsEmpty(t *testing.T) {
	s, r := axis.NewSweep(), axis.NewSweep()
	if s == r {
		t.Fatal("NewSweep answers one sweep twice")
	}
	m, none := &model{}, &model{}
	sameSweep(t, "a new sweep", s, m, api.Handle{}, handle(0, 1))
	dropsBox(t, s, m, api.Handle{})
	putsBox(t, s, m, api.Handle{}, api.Box{})
	putsBox(t, s, m, handle(0, 1), api.Box{})
	sameSweep(t, "a sweep", s, m)
	sameSweep(t, "another sweep", r, none, api.Handle{}, handle(0, 1))
}

// TestWhatIsRight tries edge numbers at all four places, of a handle without a box and of one that has one; what is refused changes neither axis.
func TestWhatIsRight(t *testing.T) {
	numbers := []int{-1 << 63, -1 << 32, -1<<22 - 1, -1 << 22, -3, 0, 5, 1 << 22, 1<<22 + 1, 1<<32 + 5, 1<<63 - 1}
	for _, x0 := range numbers {
		for _, y0 := range numbers {
			for _, x1 := range numbers {
				for _, y1 := range numbers {
					b := api.Box{X0: x0, Y0: y0, X1: x1, Y1: y1}
					s, m := axis.NewSweep(), &model{}
					putsBox(t, s, m, handle(0, 1), api.Box{X0: -9, Y0: -9, X1: 1, Y1: 1})
					putsBox(t, s, m, handle(1, 1), api.Box{X0: 1, Y0: 1, X1: 5, Y1: 5})
					putsBox(t, s, m, handle(0, 1), b)
					sameSweep(t, fmt.Sprint("Put of ", b), s, m)
					putsBox(t, s, m, handle(0, 2), b)
					sameSweep(t, fmt.Sprint("Put of ", b, ", once more"), s, m, handle(5, 1))
				}
			}
		}
	}
}

// smallBoxes are all boxes with coordinates from 0 on and below n.
func smallBoxes(n int) []api.Box {
	var list []api.Box
	for _, x := range smallSpans(n) {
		for _, y := range smallSpans(n) {
			list = append(list, api.Box{X0: x[0], Y0: y[0], X1: x[1], Y1: y[1]})
		}
	}
	return list
}

// TestTwoBoxes goes through all small boxes two by two: they meet where they share a point, which is looked for one by one.
func TestTwoBoxes(t *testing.T) {
	const n = 4
	has := func(b api.Box, x, y int) bool { return b.X0 <= x && x <= b.X1 && b.Y0 <= y && y <= b.Y1 }
	a, b := handle(4, 4), handle(4, 3)
	s, m := axis.NewSweep(), &model{}
	for _, p := range smallBoxes(n) {
		for _, q := range smallBoxes(n) {
			shared := false
			for k := range n * n {
				shared = shared || has(p, k/n, k%n) && has(q, k/n, k%n)
			}
			putsBox(t, s, m, a, p)
			putsBox(t, s, m, b, q)
			if got := s.Meet(a, b); got != shared {
				t.Fatalf("Meet of %v and %v: %v; asked is %v", p, q, got, shared)
			}
			sameSweep(t, fmt.Sprint(p, " and ", q), s, m, handle(3, 4))
		}
	}
}

// TestMeetOfOneAndTheSame: nothing meets itself, whether it has a box or not.
func TestMeetOfOneAndTheSame(t *testing.T) {
	s := axis.NewSweep()
	all := oddHandles()
	for _, h := range all[:40] {
		if err := s.Put(h, api.Box{X1: 2, Y1: 2}); err != nil {
			t.Fatal(err)
		}
	}
	if err := s.Put(api.Handle{}, api.Box{X1: 2, Y1: 2}); err != nil {
		t.Fatal(err)
	}
	for _, h := range append(all, api.Handle{}) {
		if s.Meet(h, h) {
			t.Fatalf("%v meets itself", h)
		}
	}
	if !s.Meet(api.Handle{}, all[0]) || !s.Meet(all[0], api.Handle{}) || s.Meet(all[0], all[len(all)-1]) || s.Meet(all[len(all)-1], all[0]) {
		t.Fatal("Meet of those that have boxes, or of those that have none, is wrong")
	}
}

// TestAllSweepOrders goes through all short rows of calls, each on a new sweep.
func TestAllSweepOrders(t *testing.T) {
	const steps = 4
	handles := []api.Handle{handle(1, 2), handle(1, 1), handle(0, 7)}
	boxes := []api.Box{{X0: 1, Y0: 1, X1: 3, Y1: 3}, {X0: 3, Y0: 3, X1: 3, Y1: 3}, {X0: 3, Y0: 4, X1: 4, Y1: 5}, {X0: 1, Y0: 3, X1: 3, Y1: 2}}
	var row []int
	var try func()
	try = func() {
		s, m := axis.NewSweep(), &model{}
		for _, k := range row {
			if h := handles[k%3]; k/3 == len(boxes) {
				dropsBox(t, s, m, h)
			} else {
				putsBox(t, s, m, h, boxes[k/3])
			}
		}
		sameSweep(t, fmt.Sprint("calls ", row), s, m, handles...)
		if len(row) == steps {
			return
		}
		for k := range 3 * (len(boxes) + 1) {
			row = append(row, k)
			try()
			row = row[:len(row)-1]
		}
	}
	try()
}

// TestLongSweepOrders lets a sweep grow and shrink to and fro, with numbers that are often the same and with far ones.
func TestLongSweepOrders(t *testing.T) {
	for _, below := range []int{0, 2, 9, 200, reach, reach + 3} {
		draw := drawer(uint64(below) + 50)
		s, m := axis.NewSweep(), &model{}
		for step := range 1200 {
			h := handle(draw(5), draw(4))
			grows := step/300%2 == 0
			if k := draw(10); k < 8 == grows {
				var b api.Box
				b.X0, b.X1 = drawnSpan(draw, below)
				b.Y0, b.Y1 = drawnSpan(draw, below)
				putsBox(t, s, m, h, b)
			} else {
				dropsBox(t, s, m, h)
			}
			sameSweep(t, fmt.Sprintf("numbers to %d, step %d", below, step), s, m, h)
		}
	}
}

// TestSweepHasNoHistory: sweeps that came to the same boxes by other ways answer the same.
func TestSweepHasNoHistory(t *testing.T) {
	draw := drawer(4)
	boxes := shuffled(draw, smallBoxes(5))[:30]
	first, m := sweepOf(t, boxes...)
	sameSweep(t, "the first way", first, m)
	for way := range uint64(10) {
		draw := drawer(way)
		s := axis.NewSweep()
		for _, x := range shuffled(draw, m.list) {
			s.Put(x.handle, boxes[draw(len(boxes))])
			other := m.list[draw(len(m.list))].handle
			s.Put(other, boxes[draw(len(boxes))])
			s.Drop(other)
		}
		for _, x := range shuffled(draw, m.list) {
			if err := s.Put(x.handle, x.box); err != nil {
				t.Fatal(err)
			}
		}
		sameSweep(t, fmt.Sprint("way ", way), s, m, handle(99, 1))
	}
}

// TestManyBoxes: there is no limit to how many boxes there are.
func TestManyBoxes(t *testing.T) {
	const n = 500
	s := axis.NewSweep()
	for i := range n {
		if err := s.Put(handle(i, 1), api.Box{X0: -i, Y0: 10 * i, X1: i, Y1: 10*i + 10}); err != nil {
			t.Fatal(err)
		}
	}
	pairs := s.Pairs()
	if len(pairs) != n-1 || s.Len() != n {
		t.Fatalf("%d pairs of %d boxes; asked are %d of %d", len(pairs), s.Len(), n-1, n)
	}
	for i, p := range pairs {
		if p != (api.Pair{A: handle(i, 1), B: handle(i+1, 1)}) {
			t.Fatalf("pair %d is %v", i, p)
		}
	}
}
