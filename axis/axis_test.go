package axis_test

import (
	"fmt"
	"slices"
	"testing"

	"paddock/api"
	"paddock/axis"
)

// Each call has just the signature of its chapter.
var (
	_ func() *axis.Axis                              = axis.NewAxis
	_ func(*axis.Axis, api.Handle, int, int) error   = (*axis.Axis).Put
	_ func(*axis.Axis, api.Handle) error             = (*axis.Axis).Drop
	_ func(*axis.Axis) []axis.End                    = (*axis.Axis).Ends
	_ func(*axis.Axis) []api.Pair                    = (*axis.Axis).Pairs
	_ func(*axis.Axis) int                           = (*axis.Axis).Len
	_ func() *axis.Sweep                             = axis.NewSweep
	_ func(*axis.Sweep, api.Handle, api.Box) error   = (*axis.Sweep).Put
	_ func(*axis.Sweep, api.Handle) error            = (*axis.Sweep).Drop
	_ func(*axis.Sweep) []api.Pair                   = (*axis.Sweep).Pairs
	_ func(*axis.Sweep, api.Handle, api.Handle) bool = (*axis.Sweep).Meet
	_ func(*axis.Sweep) int                          = (*axis.Sweep).Len
	_ struct {
		At     int
		High   bool
		Handle api.Handle
	} = axis.End{}
)

func TestReach(t *testing.T) {
	if api.MaxSpan != reach {
		t.Fatalf("MaxSpan is %d", api.MaxSpan)
	}
}

func TestExample(t *testing.T) {
	x := axis.NewAxis()
	a, b := handle(0, 1), handle(1, 1)
	for _, turned := range []bool{false, true} {
		if turned {
			a, b = b, a
		}
		if err := x.Put(a, 1, 3); err != nil {
			t.Fatalf("Put: %v", err)
		}
		if err := x.Put(b, 3, 5); err != nil {
			t.Fatalf("Put: %v", err)
		}
		if got := x.Pairs(); !slices.Equal(got, []api.Pair{{A: handle(0, 1), B: handle(1, 1)}}) {
			t.Fatalf("Pairs: %v", got)
		}
		want := []axis.End{{At: 1, Handle: a}, {At: 3, Handle: b}, {At: 3, High: true, Handle: a}, {At: 5, High: true, Handle: b}}
		if got := x.Ends(); !slices.Equal(got, want) {
			t.Fatalf("Ends: %v; asked is %v", got, want)
		}
		if got := x.Len(); got != 2 {
			t.Fatalf("Len: %d", got)
		}
	}
}

func TestByHand(t *testing.T) {
	a, b, c := handle(2, 1), handle(1, 9), handle(1, 4) // c, b, a, in their order
	low := func(at int, h api.Handle) axis.End { return axis.End{At: at, Handle: h} }
	high := func(at int, h api.Handle) axis.End { return axis.End{At: at, High: true, Handle: h} }
	x := axis.NewAxis()
	step := func(err, wantErr error, ends []axis.End, pairs ...api.Pair) {
		t.Helper()
		if err != wantErr {
			t.Fatalf("%v; asked is %v", err, wantErr)
		}
		if got := x.Ends(); !slices.Equal(got, ends) {
			t.Fatalf("Ends: %v; asked is %v", got, ends)
		}
		if got := x.Pairs(); !slices.Equal(got, pairs) {
			t.Fatalf("Pairs: %v; asked is %v", got, pairs)
		}
		if got := x.Len(); got != len(ends)/2 {
			t.Fatalf("Len: %d; asked is %d", got, len(ends)/2)
		}
	}
	cb, ca, ba := api.Pair{A: c, B: b}, api.Pair{A: c, B: a}, api.Pair{A: b, B: a}
	step(x.Drop(a), api.ErrNone, nil)
	step(x.Put(a, -2, 2), nil, []axis.End{low(-2, a), high(2, a)})
	step(x.Put(b, 2, 2), nil, []axis.End{low(-2, a), low(2, b), high(2, b), high(2, a)}, ba)
	step(x.Put(c, -9, 9), nil, []axis.End{low(-9, c), low(-2, a), low(2, b), high(2, b), high(2, a), high(9, c)}, cb, ca, ba)
	step(x.Put(a, -2, 1), nil, []axis.End{low(-9, c), low(-2, a), high(1, a), low(2, b), high(2, b), high(9, c)}, cb, ca)
	step(x.Put(c, 2, 1), api.ErrRange, []axis.End{low(-9, c), low(-2, a), high(1, a), low(2, b), high(2, b), high(9, c)}, cb, ca)
	step(x.Put(c, 2, 2), nil, []axis.End{low(-2, a), high(1, a), low(2, c), low(2, b), high(2, c), high(2, b)}, cb)
	step(x.Drop(b), nil, []axis.End{low(-2, a), high(1, a), low(2, c), high(2, c)})
	step(x.Drop(b), api.ErrNone, []axis.End{low(-2, a), high(1, a), low(2, c), high(2, c)})
	step(x.Put(b, 1, 2), nil, []axis.End{low(-2, a), low(1, b), high(1, a), low(2, c), high(2, c), high(2, b)}, cb, ba)
	step(x.Drop(a), nil, []axis.End{low(1, b), low(2, c), high(2, c), high(2, b)}, cb)
	step(x.Drop(c), nil, []axis.End{low(1, b), high(2, b)})
	step(x.Drop(b), nil, nil)
	step(x.Drop(b), api.ErrNone, nil)
}

func TestNewIsEmpty(t *testing.T) {
	a, b := axis.NewAxis(), axis.NewAxis()
	if a == b {
		t.Fatal("NewAxis answers one axis twice")
	}
	m, none := &model{}, &model{}
	same(t, "a new axis", a, m)
	drops(t, a, m, handle(0, 0))
	drops(t, a, m, handle(0, 1))
	puts(t, a, m, handle(0, 1), 1, 2)
	puts(t, a, m, handle(1, 1), 2, 3)
	same(t, "an axis", a, m)
	same(t, "another axis", b, none)
	same(t, "a third axis", axis.NewAxis(), none)
}

// TestWhatIsASpan tries all edge numbers as both ends, of a handle without a span and of one that has one.
func TestWhatIsASpan(t *testing.T) {
	for _, low := range edgeNumbers() {
		for _, high := range edgeNumbers() {
			when := fmt.Sprintf("Put of %d, %d", low, high)
			a, m := of(t, [2]int{-7, 7}, [2]int{7, 9}, [2]int{-reach, -7})
			puts(t, a, m, handle(5, 1), low, high)
			same(t, when, a, m)
			puts(t, a, m, handle(0, 1), low, high)
			same(t, when+", once more", a, m)
			drops(t, a, m, handle(5, 1))
			same(t, when+", dropped", a, m)
		}
	}
}

// TestEdgesOfReach writes down which numbers are in reach.
func TestEdgesOfReach(t *testing.T) {
	for _, c := range []struct {
		low, high int
		want      error
	}{
		{-4194304, 4194304, nil}, {-4194304, -4194304, nil}, {4194304, 4194304, nil}, {0, 0, nil}, {-1, 0, nil},
		{-4194305, 0, api.ErrRange}, {0, 4194305, api.ErrRange}, {-4194305, 4194305, api.ErrRange},
		{4194305, 4194305, api.ErrRange}, {-4194305, -4194305, api.ErrRange},
		{1, 0, api.ErrRange}, {0, -1, api.ErrRange}, {4194304, -4194304, api.ErrRange}, {4194304, 4194303, api.ErrRange},
	} {
		a := axis.NewAxis()
		if err := a.Put(handle(0, 1), c.low, c.high); err != c.want {
			t.Fatalf("Put of %d, %d: %v; asked is %v", c.low, c.high, err, c.want)
		}
		if n := a.Len(); (n == 1) != (c.want == nil) {
			t.Fatalf("Len after a Put of %d, %d: %d", c.low, c.high, n)
		}
	}
}

// TestFarSpans: spans at the ends of reach meet where they have a number in common.
func TestFarSpans(t *testing.T) {
	a, m := of(t, [2]int{-reach, -reach}, [2]int{-reach, reach}, [2]int{reach, reach}, [2]int{-reach, reach - 1}, [2]int{-reach + 1, reach}, [2]int{0, 0})
	for i := range 6 {
		drops(t, a, m, handle(i, 1))
		same(t, "far spans", a, m)
	}
}

// smallSpans are all spans from 0 on and below n.
func smallSpans(n int) [][2]int {
	var list [][2]int
	for low := range n {
		for high := low; high < n; high++ {
			list = append(list, [2]int{low, high})
		}
	}
	return list
}

// TestTwoSpans goes through all small spans two by two: they meet where they share a number, which is looked for one by one.
func TestTwoSpans(t *testing.T) {
	const n = 6
	for _, r := range smallSpans(n) {
		for _, s := range smallSpans(n) {
			shared := false
			for k := range n {
				shared = shared || r[0] <= k && k <= r[1] && s[0] <= k && k <= s[1]
			}
			a, m := of(t, r, s)
			if got := len(a.Pairs()) == 1; got != shared {
				t.Fatalf("%v and %v meet: %v; asked is %v", r, s, got, shared)
			}
			puts(t, a, m, handle(0, 1), s[0], s[1])
			same(t, fmt.Sprintf("%v and %v, the first one changed", r, s), a, m)
			drops(t, a, m, handle(1, 1))
			same(t, fmt.Sprintf("%v and %v, the second one dropped", r, s), a, m)
		}
	}
}

// TestThreeSpans goes through all small spans three by three, with handles that come in another order than they are put in.
func TestThreeSpans(t *testing.T) {
	all := smallSpans(4)
	for _, r := range all {
		for _, s := range all {
			for _, q := range all {
				a, m := axis.NewAxis(), &model{}
				puts(t, a, m, handle(1, 2), r[0], r[1])
				puts(t, a, m, handle(3, 1), s[0], s[1])
				puts(t, a, m, handle(1, 1), q[0], q[1])
				same(t, fmt.Sprint("three spans ", r, s, q), a, m)
				puts(t, a, m, handle(3, 1), q[0], r[1])
				drops(t, a, m, handle(1, 2))
				same(t, fmt.Sprint("three spans ", r, s, q, ", changed"), a, m)
			}
		}
	}
}

// TestHandlesOrder: of one number ends come by handle, whatever handles they are, and however they came there.
func TestHandlesOrder(t *testing.T) {
	all := oddHandles()
	a := axis.NewAxis()
	for _, h := range shuffled(drawer(1), all) {
		if err := a.Put(h, 4, 4); err != nil {
			t.Fatalf("Put of %v: %v", h, err)
		}
	}
	ends := a.Ends()
	if len(ends) != 2*len(all) || a.Len() != len(all) {
		t.Fatalf("%d ends, Len: %d", len(ends), a.Len())
	}
	for i, h := range all {
		if low, high := ends[i], ends[len(all)+i]; low != (axis.End{At: 4, Handle: h}) || high != (axis.End{At: 4, High: true, Handle: h}) {
			t.Fatalf("ends of place %d: %v, %v; asked are %v's", i, low, high, h)
		}
	}
	pairs := a.Pairs()
	for i, h := range all {
		for _, k := range all[i+1:] {
			if len(pairs) == 0 || pairs[0] != (api.Pair{A: h, B: k}) {
				t.Fatalf("the pair of %v and %v isn't there in its place", h, k)
			}
			pairs = pairs[1:]
		}
	}
	if len(pairs) != 0 {
		t.Fatalf("pairs too many: %v", pairs)
	}
}

// TestOddHandles: handles that differ by one number alone are different ones, that of no fields is one too.
func TestOddHandles(t *testing.T) {
	all := shuffled(drawer(2), oddHandles())
	a, m := axis.NewAxis(), &model{}
	for i, h := range all[:60] {
		puts(t, a, m, h, i, i+3)
	}
	puts(t, a, m, api.Handle{}, 7, 30)
	same(t, "odd handles", a, m)
	for i, h := range all {
		drops(t, a, m, h)
		if i%15 == 0 || i == len(all)-1 {
			same(t, "odd handles", a, m)
		}
	}
}

// TestManySpans: there is no limit to how many spans there are.
func TestManySpans(t *testing.T) {
	const n = 700
	a := axis.NewAxis()
	for i := range n {
		if err := a.Put(handle(i, 1), -i, i); err != nil {
			t.Fatal(err)
		}
	}
	if got := len(a.Pairs()); got != n*(n-1)/2 || a.Len() != n {
		t.Fatalf("%d pairs of %d spans that all meet", got, a.Len())
	}
	for i := range n {
		if err := a.Put(handle(i, 1), 2*i, 2*i+1); err != nil {
			t.Fatal(err)
		}
	}
	if got := a.Pairs(); len(got) != 0 || a.Len() != n {
		t.Fatalf("%d pairs of %d spans none of which meet", len(got), a.Len())
	}
	for i, e := range a.Ends() {
		if e != (axis.End{At: i, High: i%2 == 1, Handle: handle(i/2, 1)}) {
			t.Fatalf("end %d is %v", i, e)
		}
	}
}
