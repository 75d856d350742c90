package handles_test

import (
	"fmt"
	"math"
	"slices"
	"testing"

	"paddock/api"
	"paddock/handles"
)

// Each call has just the signature of its chapter.
var (
	_ func() *handles.Pool                           = handles.New
	_ func([]api.Slot, []int) (*handles.Pool, error) = handles.From
	_ func(*handles.Pool) (api.Handle, error)        = (*handles.Pool).Take
	_ func(*handles.Pool, api.Handle) error          = (*handles.Pool).Free
	_ func(*handles.Pool, api.Handle) bool           = (*handles.Pool).Lives
	_ func(*handles.Pool) (api.Handle, error)        = (*handles.Pool).Next
	_ func(*handles.Pool) []api.Handle               = (*handles.Pool).List
	_ func(*handles.Pool) int                        = (*handles.Pool).Count
	_ func(*handles.Pool) ([]api.Slot, []int)        = (*handles.Pool).Slots
	_ func(*handles.Pool) *handles.Pool              = (*handles.Pool).Clone
)

// strangeNumbers are wrong as an Index; many of them would be right, cut to fewer bits.
func strangeNumbers() []int {
	return []int{
		math.MinInt, math.MinInt + 1, -1 << 32, math.MinInt32, -256, -128, -127, -2, -1,
		128, 129, 255, 256, 257, 1 << 16, math.MaxInt32, 1 << 32, 1<<32 + 1, math.MaxInt - 1, math.MaxInt,
	}
}

func TestByHand(t *testing.T) {
	p := handles.New()
	take := func(index, gen int) {
		t.Helper()
		next, nextErr := p.Next()
		h, err := p.Take()
		if want := handle(index, gen); h != want || err != nil || next != want || nextErr != nil {
			t.Fatalf("Next: %v, %v; Take: %v, %v; asked is %v", next, nextErr, h, err, want)
		}
	}
	free := func(index, gen int) {
		t.Helper()
		if err := p.Free(handle(index, gen)); err != nil {
			t.Fatalf("Free(%d, %d): %v", index, gen, err)
		}
	}
	take(0, 1)
	take(1, 1)
	free(0, 1)
	take(0, 2)
	take(2, 1)
	free(1, 1)
	free(2, 1)
	free(0, 2)
	take(0, 3)
	take(2, 2)
	free(0, 3)
	take(0, 4)
	take(1, 2)
	take(3, 1)
	free(2, 2)
	slots, places := p.Slots()
	if !slices.Equal(slots, []api.Slot{live(4), live(2), freed(3), live(1)}) || !slices.Equal(places, []int{2}) {
		t.Errorf("Slots: %v, %v", slots, places)
	}
	if got := p.List(); !slices.Equal(got, []api.Handle{handle(0, 4), handle(1, 2), handle(3, 1)}) || p.Count() != 3 {
		t.Errorf("List: %v; Count: %d", got, p.Count())
	}
	for h, want := range map[api.Handle]bool{handle(0, 4): true, handle(0, 1): false, handle(0, 3): false, handle(1, 2): true, handle(2, 2): false, handle(2, 3): false, handle(3, 1): true, handle(4, 1): false} {
		if p.Lives(h) != want {
			t.Errorf("Lives(%v): %v", h, !want)
		}
	}
}

func TestNewIsEmpty(t *testing.T) {
	same(t, "New", handles.New(), &model{})
	if p, q := handles.New(), handles.New(); p == q {
		t.Error("New answers one pool twice")
	}
	p, q := handles.New(), handles.New()
	p.Take()
	same(t, "another new pool", q, &model{})
}

// TestAllOrders goes through all short rows of calls: Take, and Free of each handle that was ever taken, and of one that wasn't.
func TestAllOrders(t *testing.T) {
	const steps = 8
	var row []api.Handle // a row of calls: Free of these; of the handle of no fields, Take
	var try func()
	try = func() {
		p, m := handles.New(), &model{}
		var taken []api.Handle
		for _, h := range row {
			if h == (api.Handle{}) {
				taken = append(taken, takes(t, p, m))
			} else {
				frees(t, p, m, h)
			}
		}
		same(t, fmt.Sprint(row), p, m)
		if len(row) == steps {
			return
		}
		for _, h := range append(taken, api.Handle{}, handle(len(m.places), 1)) {
			row = append(row, h)
			try()
			row = row[:len(row)-1]
		}
	}
	try()
}

// TestLongOrders goes to and fro between few and all places; each kind of call comes ahead of each.
func TestLongOrders(t *testing.T) {
	for _, bias := range []uint64{3, 5, 8, 11} {
		p, m := handles.New(), &model{}
		rule := uint64(bias)
		draw := func(n uint64) int {
			rule = rule*6364136223846793005 + 1442695040888963407
			return int((rule >> 33) % n)
		}
		for step := range 6000 {
			lives := m.lives()
			switch {
			case draw(16) < int(bias)+step/1500 || len(lives) == 0:
				takes(t, p, m)
			case draw(8) == 0:
				frees(t, p, m, handle(draw(130)-1, draw(9)))
			default:
				frees(t, p, m, lives[draw(uint64(len(lives)))])
			}
			if step%7 == 0 {
				same(t, fmt.Sprint("step ", step), p, m)
			}
			if step%501 == 0 { // a pool that is read anew goes on in the same way
				p = from(t, m.slots(), m.freeNow())
			}
		}
	}
}

func TestFull(t *testing.T) {
	p, m := handles.New(), &model{}
	for i := range mostEntities {
		if h := takes(t, p, m); h != handle(i, 1) {
			t.Fatalf("Take: %v", h)
		}
	}
	refused := func() {
		t.Helper()
		for range 2 {
			if h, err := p.Take(); h != (api.Handle{}) || err != api.ErrFull {
				t.Fatalf("Take of a full pool: %v, %v", h, err)
			}
			if h, err := p.Next(); h != (api.Handle{}) || err != api.ErrFull {
				t.Fatalf("Next of a full pool: %v, %v", h, err)
			}
			same(t, "a full pool", p, m)
		}
	}
	refused()
	for _, i := range []int{127, 0, 64} {
		frees(t, p, m, handle(i, 1))
		same(t, "one is free", p, m)
		if h := takes(t, p, m); h != handle(i, 2) {
			t.Fatalf("Take: %v", h)
		}
		refused()
	}
	for _, i := range []int{5, 100, 3} {
		frees(t, p, m, handle(i, 1))
	}
	for _, i := range []int{3, 100, 5} {
		if h := takes(t, p, m); h != handle(i, 2) {
			t.Fatalf("Take: %v, but place %d became free last", h, i)
		}
	}
	refused()
}

func TestNextChangesNothing(t *testing.T) {
	slots, free := []api.Slot{freed(2), live(1), freed(9)}, []int{2, 0}
	p, m := from(t, slots, free), modelOf(slots, free)
	for range 4 {
		for range 3 {
			p.Next()
		}
		same(t, "after Next", p, m)
		takes(t, p, m)
	}
}

func TestWrongHandles(t *testing.T) {
	slots, free := []api.Slot{live(1), freed(2), live(lastGen), freed(lastGen), live(7), freed(lastGen)}, []int{5, 1}
	p, m := from(t, slots, free), modelOf(slots, free)
	wrong := []api.Handle{
		{}, handle(0, 0), handle(0, 2), handle(0, -1), handle(1, 1), handle(1, 2), handle(1, 3), handle(2, 1), handle(2, lastGen-1), handle(2, lastGen+1),
		handle(3, lastGen), handle(3, lastGen-1), handle(3, lastGen+1), handle(3, 0), handle(4, 6), handle(4, 8), handle(4, 1<<32+7), handle(5, lastGen), handle(6, 0), handle(6, 1), handle(127, 1),
	}
	for _, n := range strangeNumbers() {
		wrong = append(wrong, handle(n, 1), handle(n, 7), handle(n, n), handle(0, n), handle(2, n), handle(4, n))
	}
	for _, h := range wrong {
		if p.Lives(h) {
			t.Errorf("Lives(%v): true", h)
		}
		if err := p.Free(h); err != api.ErrNone {
			t.Errorf("Free(%v): %v", h, err)
		}
		same(t, fmt.Sprint("after Free of ", h), p, m)
		if q := handles.New(); q.Lives(h) || q.Free(h) != api.ErrNone {
			t.Errorf("in a new pool %v lives, or is freed", h)
		}
	}
}

func TestFreeTwice(t *testing.T) {
	p, m := handles.New(), &model{}
	takes(t, p, m)
	h := takes(t, p, m)
	frees(t, p, m, h)
	for range 3 {
		if err := p.Free(h); err != api.ErrNone {
			t.Fatalf("Free of one that was freed: %v", err)
		}
		same(t, "after a second Free", p, m)
	}
	if again := takes(t, p, m); again != handle(1, 2) {
		t.Fatalf("Take: %v", again)
	}
	if err := p.Free(h); err != api.ErrNone || !p.Lives(handle(1, 2)) {
		t.Fatalf("Free of a place's earlier handle: %v; its own lives: %v", err, p.Lives(handle(1, 2)))
	}
	same(t, "at the end", p, m)
}

// TestLastGenerations: a place's last handle is of the generation MaxGen, and then the place is never free.
func TestLastGenerations(t *testing.T) {
	p := from(t, []api.Slot{live(lastGen - 1)}, nil)
	holds := func(when string, slot api.Slot, free ...int) {
		t.Helper()
		slots, places := p.Slots()
		if !slices.Equal(slots, []api.Slot{slot}) || !slices.Equal(places, free) {
			t.Fatalf("%s: %v, %v; asked is %v, %v", when, slots, places, slot, free)
		}
	}
	if err := p.Free(handle(0, lastGen-1)); err != nil {
		t.Fatal(err)
	}
	holds("the last but one is freed", freed(lastGen), 0)
	if h, err := p.Take(); h != handle(0, lastGen) || err != nil {
		t.Fatalf("Take: %v, %v", h, err)
	}
	holds("the last one is taken", live(lastGen))
	if err := p.Free(handle(0, lastGen)); err != nil || p.Lives(handle(0, lastGen)) || p.Count() != 0 {
		t.Fatalf("Free of the last one: %v; it lives: %v; Count: %d", err, p.Lives(handle(0, lastGen)), p.Count())
	}
	holds("the last one is freed", freed(lastGen))
	if h, err := p.Next(); h != handle(1, 1) || err != nil {
		t.Fatalf("Next: %v, %v", h, err)
	}
	if err := p.Free(handle(0, lastGen)); err != api.ErrNone {
		t.Fatalf("Free of the last one, once more: %v", err)
	}
	if h, err := p.Take(); h != handle(1, 1) || err != nil {
		t.Fatalf("Take: %v, %v", h, err)
	}
}

// TestUsedUp: a pool all of whose places are used up is full, though nothing lives.
func TestUsedUp(t *testing.T) {
	p := from(t, many(mostEntities, freed(lastGen)), nil)
	same(t, "all used up", p, modelOf(many(mostEntities, freed(lastGen)), nil))
	if h, err := p.Take(); h != (api.Handle{}) || err != api.ErrFull {
		t.Errorf("Take: %v, %v", h, err)
	}
	p = from(t, many(mostEntities, freed(lastGen)), []int{127, 4})
	for _, i := range []int{4, 127} {
		if h, err := p.Take(); h != handle(i, lastGen) || err != nil {
			t.Errorf("Take: %v, %v", h, err)
		}
	}
	if h, err := p.Take(); h != (api.Handle{}) || err != api.ErrFull || p.Count() != 2 {
		t.Errorf("Take: %v, %v; Count: %d", h, err, p.Count())
	}
}
