package handles_test

import (
	"slices"
	"testing"

	"paddock/api"
	"paddock/handles"
)

// The limits are written out here, so that the tests don't hang on the constants that the package itself uses.
const (
	mostEntities = 128
	lastGen      = 1073741824
)

// handle is a handle, in short.
func handle(index, gen int) api.Handle { return api.Handle{Index: index, Gen: gen} }

// live and freed are slots, in short.
func live(gen int) api.Slot  { return api.Slot{Gen: gen, Live: true} }
func freed(gen int) api.Slot { return api.Slot{Gen: gen} }

// place is what the model knows of a place: what its handles were, and the time when it became free.
type place struct {
	gen, since int
	live, gone bool // gone: it is never free again
}

// model is a pool reckoned by other means than the package's own: it has no list of free places, but the time of each of them.
type model struct {
	places []place
	time   int
}

// freeNow are the free places, in the order in which they became free.
func (m *model) freeNow() []int {
	var list []int
	for i, p := range m.places {
		if !p.live && !p.gone {
			list = append(list, i)
		}
	}
	slices.SortFunc(list, func(i, k int) int { return m.places[i].since - m.places[k].since })
	return list
}

// next is what is taken next, and whether anything is.
func (m *model) next() (api.Handle, bool) {
	if free := m.freeNow(); len(free) > 0 {
		i := free[len(free)-1]
		return handle(i, m.places[i].gen), true
	}
	if len(m.places) < mostEntities {
		return handle(len(m.places), 1), true
	}
	return api.Handle{}, false
}

// take takes what is next.
func (m *model) take() (api.Handle, error) {
	h, ok := m.next()
	if !ok {
		return h, api.ErrFull
	}
	if h.Index == len(m.places) {
		m.places = append(m.places, place{gen: 1})
	}
	m.places[h.Index].live = true
	return h, nil
}

// free frees a handle.
func (m *model) free(h api.Handle) error {
	if !slices.Contains(m.lives(), h) {
		return api.ErrNone
	}
	p := &m.places[h.Index]
	m.time++
	p.live, p.since = false, m.time
	p.gone = p.gen == lastGen
	if !p.gone {
		p.gen++
	}
	return nil
}

// lives are all handles that live, rising.
func (m *model) lives() []api.Handle {
	var list []api.Handle
	for i, p := range m.places {
		if p.live {
			list = append(list, handle(i, p.gen))
		}
	}
	return list
}

// slots are the slots.
func (m *model) slots() []api.Slot {
	var list []api.Slot
	for _, p := range m.places {
		list = append(list, api.Slot{Gen: p.gen, Live: p.live})
	}
	return list
}

// modelOf is the model of slots and free places that are a pool's.
func modelOf(slots []api.Slot, free []int) *model {
	m := &model{time: len(free)}
	for i, s := range slots {
		since := slices.Index(free, i)
		m.places = append(m.places, place{gen: s.Gen, live: s.Live, since: since, gone: !s.Live && since < 0})
	}
	return m
}

// same holds all that a pool answers without a change against the model.
func same(t *testing.T, when string, p *handles.Pool, m *model) {
	t.Helper()
	slots, free := p.Slots()
	if !slices.Equal(slots, m.slots()) || !slices.Equal(free, m.freeNow()) {
		t.Fatalf("%s: Slots: %v, %v; asked is %v, %v", when, slots, free, m.slots(), m.freeNow())
	}
	list := m.lives()
	if got := p.List(); !slices.Equal(got, list) {
		t.Fatalf("%s: List: %v; asked is %v", when, got, list)
	}
	if got := p.Count(); got != len(list) {
		t.Fatalf("%s: Count: %d; asked is %d", when, got, len(list))
	}
	h, ok := m.next()
	got, err := p.Next()
	if got != h || (err == nil) != ok || err != nil && err != api.ErrFull {
		t.Fatalf("%s: Next: %v, %v; asked is %v, %v", when, got, err, h, ok)
	}
	for i, s := range m.slots() {
		for _, gen := range []int{s.Gen, -s.Gen, s.Gen - 1, s.Gen + 1, 0, 1, 1<<32 + s.Gen} {
			if got := p.Lives(handle(i, gen)); got != (s == live(gen)) {
				t.Fatalf("%s: Lives(%d, %d): %v", when, i, gen, got)
			}
		}
	}
}

// takes takes of both, and holds one against the other.
func takes(t *testing.T, p *handles.Pool, m *model) api.Handle {
	t.Helper()
	want, wantErr := m.take()
	got, err := p.Take()
	if got != want || err != wantErr {
		t.Fatalf("Take: %v, %v; asked is %v, %v", got, err, want, wantErr)
	}
	return got
}

// frees frees a handle of both, and holds one against the other.
func frees(t *testing.T, p *handles.Pool, m *model, h api.Handle) {
	t.Helper()
	want := m.free(h)
	if err := p.Free(h); err != want {
		t.Fatalf("Free(%v): %v; asked is %v", h, err, want)
	}
}

// from is the pool of what is a pool's.
func from(t *testing.T, slots []api.Slot, free []int) *handles.Pool {
	t.Helper()
	p, err := handles.From(slots, free)
	if p == nil || err != nil {
		t.Fatalf("From(%v, %v): %v, %v", slots, free, p, err)
	}
	return p
}

// many are n slots that are the same.
func many(n int, s api.Slot) []api.Slot { return slices.Repeat([]api.Slot{s}, n) }

// rise are n numbers from 0 on.
func rise(n int) []int {
	var list []int
	for i := range n {
		list = append(list, i)
	}
	return list
}
