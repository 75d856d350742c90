package axis_test

import (
	"slices"
	"testing"

	"paddock/api"
	"paddock/axis"
)

// spoil changes all of a list's memory, what lies behind it too.
func spoil[T any](list []T, with T) {
	list = list[:cap(list)]
	for i := range list {
		list[i] = with
	}
}

// spoiledEnd and spoiledPair are what stands on no axis.
func spoiledEnd() axis.End   { return axis.End{At: -77, High: true, Handle: handle(-7, -7)} }
func spoiledPair() api.Pair  { return api.Pair{A: handle(-7, -7), B: handle(-6, -6)} }
func severalSpans() [][2]int { return [][2]int{{1, 3}, {3, 5}, {5, 5}, {0, 9}, {-4, 0}} }

func TestAxisAnswersAreOwn(t *testing.T) {
	for n := range len(severalSpans()) + 1 {
		a, m := of(t, severalSpans()[:n]...)
		ends, pairs := a.Ends(), a.Pairs()
		wantEnds, wantPairs := m.ends(), m.pairs()
		for i := range n {
			puts(t, a, m, handle(i, 1), i, 2*i)
			drops(t, a, m, handle(i/2, 1))
			puts(t, a, m, handle(i, 9), -i, i)
		}
		if !slices.Equal(ends, wantEnds) || !slices.Equal(pairs, wantPairs) {
			t.Fatalf("earlier answers became %v, %v", ends, pairs)
		}
		ends, pairs = a.Ends(), a.Pairs()
		wantEnds, wantPairs = m.ends(), m.pairs()
		spoil(a.Ends(), spoiledEnd())
		spoil(a.Pairs(), spoiledPair())
		_ = append(a.Ends(), spoiledEnd())
		_ = append(a.Pairs(), spoiledPair())
		same(t, "answers are changed", a, m)
		if !slices.Equal(ends, wantEnds) || !slices.Equal(pairs, wantPairs) {
			t.Fatalf("a change of one answer shows in another one: %v, %v", ends, pairs)
		}
		for i := range n {
			drops(t, a, m, handle(i, 1))
			puts(t, a, m, handle(i, 1), i, 2*i)
			same(t, "after answers were changed", a, m)
		}
	}
}

func TestSweepAnswersAreOwn(t *testing.T) {
	var boxes []api.Box
	for _, s := range severalSpans() {
		boxes = append(boxes, api.Box{X0: s[0], Y0: -s[1], X1: s[1], Y1: -s[0]})
	}
	for n := range len(boxes) + 1 {
		s, m := sweepOf(t, boxes[:n]...)
		early, want := s.Pairs(), m.pairs()
		spoil(s.Pairs(), spoiledPair())
		_ = append(s.Pairs(), spoiledPair())
		sameSweep(t, "answers are changed", s, m)
		for i := range n {
			putsBox(t, s, m, handle(i, 1), api.Box{X0: i, X1: 2 * i})
			dropsBox(t, s, m, handle(i/2, 1))
		}
		sameSweep(t, "after answers were changed", s, m)
		if !slices.Equal(early, want) {
			t.Fatalf("an earlier answer became %v; it was %v", early, want)
		}
	}
}

// TestAxesAreApart: what is done to one axis, or to one sweep, doesn't show in another one.
func TestAxesAreApart(t *testing.T) {
	a, m := of(t, severalSpans()...)
	b, k := of(t, severalSpans()...)
	drops(t, a, m, handle(3, 1))
	puts(t, a, m, handle(7, 1), 3, 3)
	puts(t, b, k, handle(0, 1), 4, 8)
	same(t, "the one", a, m)
	same(t, "the other", b, k)

	s, n := sweepOf(t, api.Box{X1: 3, Y1: 3}, api.Box{X0: 3, Y0: 3, X1: 4, Y1: 4})
	r, o := sweepOf(t, api.Box{X1: 3, Y1: 3}, api.Box{X0: 3, Y0: 3, X1: 4, Y1: 4})
	dropsBox(t, s, n, handle(0, 1))
	putsBox(t, r, o, handle(2, 1), api.Box{X0: 1, Y0: 1, X1: 9, Y1: 9})
	sameSweep(t, "the one sweep", s, n, handle(0, 1), handle(2, 1))
	sameSweep(t, "the other sweep", r, o)
	sameSweep(t, "a third sweep", axis.NewSweep(), &model{}, handle(0, 1), handle(1, 1))
}
