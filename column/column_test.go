package column_test

import (
	"fmt"
	"math"
	"slices"
	"testing"

	"paddock/api"
	"paddock/column"
)

// Each call has just the signature of its chapter.
var (
	_ func(int) *column.Column[string]                    = column.New[string]
	_ func(*column.Column[string], ...string) error       = (*column.Column[string]).Push
	_ func(*column.Column[string], int) (string, error)   = (*column.Column[string]).Get
	_ func(*column.Column[string], int, string) error     = (*column.Column[string]).Set
	_ func(*column.Column[string], int) (string, error)   = (*column.Column[string]).Take
	_ func(*column.Column[string]) int                    = (*column.Column[string]).Len
	_ func(*column.Column[string]) int                    = (*column.Column[string]).Most
	_ func(*column.Column[string]) []string               = (*column.Column[string]).All
	_ func(*column.Column[string]) *column.Column[string] = (*column.Column[string]).Clone
)

// holds holds a column to what is written down.
func holds(t *testing.T, c *column.Column[int], most int, things ...int) {
	t.Helper()
	if got := c.All(); !slices.Equal(got, things) || c.Len() != len(things) || c.Most() != most {
		t.Fatalf("All: %v; Len: %d; Most: %d; asked is %v, at most %d", got, c.Len(), c.Most(), things, most)
	}
}

func TestExample(t *testing.T) {
	c := column.New[int](3)
	if err := c.Push(7, 8, 9); err != nil {
		t.Fatalf("Push: %v", err)
	}
	if x, err := c.Take(0); x != 7 || err != nil {
		t.Fatalf("Take: %d, %v", x, err)
	}
	holds(t, c, 3, 9, 8)
}

func TestByHand(t *testing.T) {
	c := column.New[int](6)
	holds(t, c, 6)
	push := func(want error, things ...int) {
		t.Helper()
		if err := c.Push(things...); err != want {
			t.Fatalf("Push(%v): %v; asked is %v", things, err, want)
		}
	}
	take := func(i, want int) {
		t.Helper()
		if x, err := c.Take(i); x != want || err != nil {
			t.Fatalf("Take(%d): %d, %v; asked is %d", i, x, err, want)
		}
	}
	push(nil, 5)
	push(nil, 6, 7, 8)
	holds(t, c, 6, 5, 6, 7, 8)
	push(api.ErrFull, 1, 2, 3)
	holds(t, c, 6, 5, 6, 7, 8)
	push(nil, 9, 10)
	push(api.ErrFull, 11)
	push(nil)
	holds(t, c, 6, 5, 6, 7, 8, 9, 10)
	take(1, 6)
	holds(t, c, 6, 5, 10, 7, 8, 9)
	take(4, 9) // the last one
	holds(t, c, 6, 5, 10, 7, 8)
	take(0, 5)
	holds(t, c, 6, 8, 10, 7)
	take(1, 10) // the last but one
	holds(t, c, 6, 8, 7)
	if err := c.Set(1, 70); err != nil {
		t.Fatalf("Set: %v", err)
	}
	if x, err := c.Get(1); x != 70 || err != nil {
		t.Fatalf("Get: %d, %v", x, err)
	}
	take(0, 8)
	take(0, 70)
	holds(t, c, 6)
	push(nil, 1, 2, 3, 4, 5, 6)
	holds(t, c, 6, 1, 2, 3, 4, 5, 6)
}

func TestNewIsEmpty(t *testing.T) {
	for most, want := range map[int]int{
		math.MinInt: 0, -1 << 32: 0, -1: 0, 0: 0, 1: 1, 2: 2, 128: 128, 1 << 31: 1 << 31, 1 << 32: 1 << 32, math.MaxInt - 1: math.MaxInt - 1, math.MaxInt: math.MaxInt,
	} {
		c := column.New[int](most)
		holds(t, c, want)
		same(t, fmt.Sprint("New of ", most), c, &model[int]{most: want})
		if err := c.Push(); err != nil {
			t.Fatalf("Push of no things to a new column of most %d: %v", most, err)
		}
		if err := c.Push(4); (err == nil) != (want > 0) || err != nil && err != api.ErrFull {
			t.Fatalf("Push to a new column of most %d: %v", most, err)
		}
		same(t, "a new column that was pushed to", c, &model[int]{most: want, things: []int{4}[:min(want, 1)]})
	}
	c, d := column.New[int](2), column.New[int](2)
	if c == d {
		t.Fatal("New answers one column twice")
	}
	c.Push(1)
	holds(t, d, 2)
}

// calls are all calls of a short row that change a column, each with a thing of its own.
func calls(most, step int) map[string]func(t *testing.T, c *column.Column[int], m *model[int]) {
	all := map[string]func(t *testing.T, c *column.Column[int], m *model[int]){}
	for n := range 4 {
		all[fmt.Sprintf("Push %d;", n)] = func(t *testing.T, c *column.Column[int], m *model[int]) {
			pushes(t, c, m, rise(10*step, n)...)
		}
	}
	for i := -1; i <= most; i++ {
		all[fmt.Sprintf("Take %d;", i)] = func(t *testing.T, c *column.Column[int], m *model[int]) { takes(t, c, m, i) }
		all[fmt.Sprintf("Set %d;", i)] = func(t *testing.T, c *column.Column[int], m *model[int]) { sets(t, c, m, i, -step) }
	}
	return all
}

// TestAllOrders goes through all short rows of calls, each on a new column.
func TestAllOrders(t *testing.T) {
	const steps = 4
	for most := range 5 {
		var row []func(t *testing.T, c *column.Column[int], m *model[int])
		var try func(names string)
		try = func(names string) {
			c, m := column.New[int](most), modelOf[int](most)
			for _, call := range row {
				call(t, c, m)
			}
			same(t, names, c, m)
			if len(row) == steps {
				return
			}
			for name, call := range calls(most, len(row)+1) {
				row = append(row, call)
				try(names + name)
				row = row[:len(row)-1]
			}
		}
		try(fmt.Sprintf("most %d: ", most))
	}
}

// TestLongOrders fills and empties columns to and fro, by a fixed rule, and goes on with a clone now and then.
func TestLongOrders(t *testing.T) {
	for _, most := range []int{1, 2, 7, 128, 1000} {
		c, m := column.New[int](most), modelOf[int](most)
		rule := uint64(most)
		draw := func(n int) int {
			rule = rule*6364136223846793005 + 1442695040888963407
			return int((rule >> 33) % uint64(n))
		}
		for step := range 6000 {
			grows := step/(3*most+50)%2 == 0
			switch k := draw(8); {
			case k < 4 && grows || k < 1:
				pushes(t, c, m, rise(step*10, draw(5))...)
			case k < 5:
				sets(t, c, m, draw(len(m.things)+2)-1, -step)
			case k < 6:
				takes(t, c, m, len(m.things)-1)
			default:
				takes(t, c, m, draw(len(m.things)+2)-1)
			}
			if step%5 == 0 {
				same(t, fmt.Sprintf("most %d, step %d", most, step), c, m)
			}
			if step%301 == 0 {
				c = c.Clone()
			}
		}
	}
}

// TestPushUpToMost: of each count that it holds, just as many as there is room for are pushed, or none.
func TestPushUpToMost(t *testing.T) {
	for _, most := range []int{0, 1, 2, 5, 8, 128, 129} {
		for held := 0; held <= most; held += 1 + held/4 {
			room := most - held
			for _, n := range []int{0, 1, room - 1, room, room + 1, room + 2, most, most + 1, 5000} {
				c, m := of(t, most, rise(100, held)...)
				pushes(t, c, m, rise(900, max(n, 0))...)
				want := held
				if n > 0 && n <= room {
					want += n
				}
				if c.Len() != want {
					t.Fatalf("Push of %d to %d of %d: Len is %d", n, held, most, c.Len())
				}
				same(t, fmt.Sprintf("Push of %d to %d of %d", n, held, most), c, m)
				pushes(t, c, m, rise(500, most-c.Len())...)
				pushes(t, c, m, 1)
				same(t, "a full column", c, m)
			}
		}
	}
}

// TestRoomComesBack: what was taken leaves room for as many, and no more.
func TestRoomComesBack(t *testing.T) {
	c, m := of(t, 5, rise(0, 5)...)
	for n := range 6 {
		for range n {
			takes(t, c, m, (n*3)%c.Len())
		}
		pushes(t, c, m, rise(100*n, n+1)...)
		same(t, "one too many", c, m)
		pushes(t, c, m, rise(100*n, n)...)
		same(t, "full again", c, m)
		if c.Len() != 5 {
			t.Fatalf("Len: %d", c.Len())
		}
	}
}

// TestGreatMost: a column for more things than there is memory is made, and holds few as any other does.
func TestGreatMost(t *testing.T) {
	for _, most := range []int{1 << 31, 1 << 40, math.MaxInt - 1, math.MaxInt} {
		c, m := of(t, most, 1, 2, 3)
		pushes(t, c, m, rise(0, 3000)...)
		takes(t, c, m, 1500)
		same(t, "a great one", c, m)
		same(t, "its clone", c.Clone(), m)
	}
}

func TestTakeOfEachPlace(t *testing.T) {
	for n := 1; n < 40; n++ {
		for i := range n {
			c, m := of(t, n, rise(50, n)...)
			takes(t, c, m, i)
			same(t, fmt.Sprintf("Take(%d) of %d", i, n), c, m)
			if want := 50 + n - 1; i < n-1 {
				if x, err := c.Get(i); x != want || err != nil {
					t.Fatalf("Take(%d) of %d: %d, %v stand there; asked is the last one, %d", i, n, x, err, want)
				}
			}
		}
	}
}

func TestSetOfEachPlace(t *testing.T) {
	for n := 1; n < 40; n++ {
		c, m := of(t, n, rise(50, n)...)
		for i := range n {
			sets(t, c, m, i, -i)
			same(t, fmt.Sprintf("Set(%d) of %d", i, n), c, m)
		}
	}
}

func TestWrongPlaces(t *testing.T) {
	for _, n := range []int{0, 1, 2, 5, 100} {
		c, m := of(t, 128, rise(50, n+3)...)
		for range 3 { // places behind the end, where things were
			takes(t, c, m, 0)
		}
		for _, i := range append(strangeNumbers(), n, n+1, n+2, n+3, 127, -n, -n-1) {
			if 0 <= i && i < n {
				continue
			}
			if x, err := c.Get(i); x != 0 || err != api.ErrRange {
				t.Errorf("Get(%d) of %d: %d, %v", i, n, x, err)
			}
			if err := c.Set(i, 99); err != api.ErrRange {
				t.Errorf("Set(%d) of %d: %v", i, n, err)
			}
			if x, err := c.Take(i); x != 0 || err != api.ErrRange {
				t.Errorf("Take(%d) of %d: %d, %v", i, n, x, err)
			}
			same(t, fmt.Sprintf("after calls of the place %d of %d", i, n), c, m)
		}
	}
}
