package axis_test

import (
	"math"
	"slices"
	"testing"

	"paddock/api"
	"paddock/axis"
)

// reach is how far a number may lie from 0, as the document's limits have it.
const reach = 4194304

// held is a handle with its box; of an axis' model the spans by X alone count.
type held struct {
	handle api.Handle
	box    api.Box
}

// model lays what it holds down as it comes, and looks through all of it at each call.
type model struct {
	list []held
}

func handle(index, gen int) api.Handle { return api.Handle{Index: index, Gen: gen} }

// spanned is a box with this span by X.
func spanned(low, high int) api.Box { return api.Box{X0: low, X1: high} }

// isSpan tells whether there is a span from low to high.
func isSpan(low, high int) bool {
	for _, n := range []int{low, high} {
		if n < -reach || n > reach {
			return false
		}
	}
	return low <= high
}

// isRight tells whether a box is right.
func isRight(b api.Box) bool { return isSpan(b.X0, b.X1) && isSpan(b.Y0, b.Y1) }

// common tells whether two spans have a number in common: then the greater low one is such a number.
func common(low1, high1, low2, high2 int) bool {
	return max(low1, low2) <= min(high1, high2)
}

// meet tells whether two boxes that are right meet.
func meet(a, b api.Box) bool {
	return common(a.X0, a.X1, b.X0, b.X1) && common(a.Y0, a.Y1, b.Y0, b.Y1)
}

// earlier tells whether a handle comes ahead of another one.
func earlier(a, b api.Handle) bool {
	return a.Index < b.Index || a.Index == b.Index && a.Gen < b.Gen
}

// find is the place of a handle, or -1.
func (m *model) find(h api.Handle) int {
	return slices.IndexFunc(m.list, func(x held) bool { return x.handle == h })
}

// put lays a box down behind the others, where the handle's old one is gone.
func (m *model) put(h api.Handle, b api.Box) {
	m.drop(h)
	m.list = slices.Concat(m.list, []held{{h, b}})
}

// drop leaves a handle's box out.
func (m *model) drop(h api.Handle) error {
	i := m.find(h)
	if i < 0 {
		return api.ErrNone
	}
	m.list = slices.Concat(m.list[:i], m.list[i+1:])
	return nil
}

// meets tells whether both handles have boxes that meet.
func (m *model) meets(a, b api.Handle) bool {
	i, k := m.find(a), m.find(b)
	return i >= 0 && k >= 0 && i != k && meet(m.list[i].box, m.list[k].box)
}

// handles are all handles, in order.
func (m *model) handles() []api.Handle {
	var list []api.Handle
	for _, x := range m.list {
		i := 0
		for i < len(list) && earlier(list[i], x.handle) {
			i++
		}
		list = slices.Insert(list, i, x.handle)
	}
	return list
}

// pairs are those of all boxes that meet: of handles that rise they rise too.
func (m *model) pairs() []api.Pair {
	var list []api.Pair
	all := m.handles()
	for i, a := range all {
		for _, b := range all[i+1:] {
			if m.meets(a, b) {
				list = append(list, api.Pair{A: a, B: b})
			}
		}
	}
	return list
}

// ends are those of all spans by X: of each number that is an end, low ones by handle, and then high ones by handle.
func (m *model) ends() []axis.End {
	var numbers []int
	for _, x := range m.list {
		numbers = append(numbers, x.box.X0, x.box.X1)
	}
	slices.Sort(numbers)
	all := m.handles()
	var list []axis.End
	for _, n := range slices.Compact(numbers) {
		for _, h := range all {
			if m.list[m.find(h)].box.X0 == n {
				list = append(list, axis.End{At: n, Handle: h})
			}
		}
		for _, h := range all {
			if m.list[m.find(h)].box.X1 == n {
				list = append(list, axis.End{At: n, High: true, Handle: h})
			}
		}
	}
	return list
}

// same holds what an axis answers without a change against the model.
func same(t *testing.T, when string, a *axis.Axis, m *model) {
	t.Helper()
	ends, pairs := m.ends(), m.pairs()
	for range 2 {
		if got := a.Ends(); !slices.Equal(got, ends) {
			t.Fatalf("%s: Ends: %v; asked is %v", when, got, ends)
		}
		if got := a.Pairs(); !slices.Equal(got, pairs) {
			t.Fatalf("%s: Pairs: %v; asked is %v", when, got, pairs)
		}
		if got := a.Len(); got != len(m.list) {
			t.Fatalf("%s: Len: %d; asked is %d", when, got, len(m.list))
		}
	}
}

// puts puts a span on both, and holds the one against the other.
func puts(t *testing.T, a *axis.Axis, m *model, h api.Handle, low, high int) {
	t.Helper()
	want := api.ErrRange
	if isSpan(low, high) {
		want = nil
		m.put(h, spanned(low, high))
	}
	if err := a.Put(h, low, high); err != want {
		t.Fatalf("Put(%v, %d, %d): %v; asked is %v", h, low, high, err, want)
	}
}

// drops drops a handle of both, and holds the one against the other.
func drops(t *testing.T, a *axis.Axis, m *model, h api.Handle) {
	t.Helper()
	want := m.drop(h)
	if err := a.Drop(h); err != want {
		t.Fatalf("Drop(%v): %v; asked is %v", h, err, want)
	}
}

// of is an axis with these spans, of the handles (0, 1), (1, 1) and on, and its model.
func of(t *testing.T, spans ...[2]int) (*axis.Axis, *model) {
	t.Helper()
	a, m := axis.NewAxis(), &model{}
	for i, s := range spans {
		puts(t, a, m, handle(i, 1), s[0], s[1])
	}
	same(t, "a new axis", a, m)
	return a, m
}

// sameSweep holds what a sweep answers without a change against the model; strangers are handles that may have no box.
func sameSweep(t *testing.T, when string, s *axis.Sweep, m *model, strangers ...api.Handle) {
	t.Helper()
	pairs := m.pairs()
	for range 2 {
		if got := s.Pairs(); !slices.Equal(got, pairs) {
			t.Fatalf("%s: Pairs: %v; asked is %v", when, got, pairs)
		}
		if got := s.Len(); got != len(m.list) {
			t.Fatalf("%s: Len: %d; asked is %d", when, got, len(m.list))
		}
	}
	all := slices.Concat(m.handles(), strangers)
	for _, a := range all {
		for _, b := range all {
			if got, want := s.Meet(a, b), m.meets(a, b); got != want {
				t.Fatalf("%s: Meet(%v, %v): %v; asked is %v", when, a, b, got, want)
			}
		}
	}
}

// putsBox puts a box in both, and holds the one against the other.
func putsBox(t *testing.T, s *axis.Sweep, m *model, h api.Handle, b api.Box) {
	t.Helper()
	want := api.ErrForm
	if isRight(b) {
		want = nil
		m.put(h, b)
	}
	if err := s.Put(h, b); err != want {
		t.Fatalf("Put(%v, %v): %v; asked is %v", h, b, err, want)
	}
}

// dropsBox drops a handle of both, and holds the one against the other.
func dropsBox(t *testing.T, s *axis.Sweep, m *model, h api.Handle) {
	t.Helper()
	want := m.drop(h)
	if err := s.Drop(h); err != want {
		t.Fatalf("Drop(%v): %v; asked is %v", h, err, want)
	}
}

// sweepOf is a sweep with these boxes, of the handles (0, 1), (1, 1) and on, and its model.
func sweepOf(t *testing.T, boxes ...api.Box) (*axis.Sweep, *model) {
	t.Helper()
	s, m := axis.NewSweep(), &model{}
	for i, b := range boxes {
		putsBox(t, s, m, handle(i, 1), b)
	}
	sameSweep(t, "a new sweep", s, m)
	return s, m
}

// drawer answers numbers by a fixed rule, from 0 on and below n.
func drawer(seed uint64) func(n int) int {
	rule := seed*2 + 5
	return func(n int) int {
		rule = rule*6364136223846793005 + 1442695040888963407
		return int((rule >> 33) % uint64(n))
	}
}

// shuffled is a list in another order.
func shuffled[T any](draw func(n int) int, list []T) []T {
	own := slices.Clone(list)
	for i := range own {
		k := i + draw(len(own)-i)
		own[i], own[k] = own[k], own[i]
	}
	return own
}

// edgeNumbers rise; they lie on both sides of the ends of reach and of all numbers, and many are the same, cut to fewer bits.
func edgeNumbers() []int {
	return []int{
		math.MinInt, math.MinInt + 1, -1 << 62, -1 << 32, -1<<32 + 5, math.MinInt32, -1<<22 - 1, -1 << 22, -1<<22 + 1, -1 << 21, -1,
		0, 1, 1 << 21, 1<<22 - 1, 1 << 22, 1<<22 + 1, math.MaxInt32, 1 << 32, 1<<32 + 5, 1 << 62, math.MaxInt - 1, math.MaxInt,
	}
}

// oddHandles are in order; they lie on both sides of all limits, and differ by Index or by Gen alone.
func oddHandles() []api.Handle {
	numbers := []int{math.MinInt, math.MinInt + 1, -1 << 32, -128, -1, 0, 1, 2, 127, 128, 1 << 30, 1 << 32, 1<<32 + 1, math.MaxInt - 1, math.MaxInt}
	var list []api.Handle
	for _, i := range numbers {
		for _, g := range numbers {
			list = append(list, handle(i, g))
		}
	}
	return list
}
