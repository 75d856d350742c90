package handles_test

import (
	"fmt"
	"slices"
	"testing"

	"paddock/api"
	"paddock/handles"
)

// roomy is a list with room behind it, into which an append of its own would write, and all of its memory.
func roomy[T any](things []T, behind T) (list, whole []T) {
	whole = append(slices.Clone(things), behind, behind, behind, behind)
	return whole[:len(things)], whole
}

// spoil changes all of a list's memory, what lies behind it too.
func spoil[T any](list []T, x T) {
	list = list[:cap(list)]
	for i := range list {
		list[i] = x
	}
}

// work takes and frees, so that all lists of a pool are changed, and grow.
func work(t *testing.T, p *handles.Pool, m *model) {
	t.Helper()
	for _, h := range m.lives() {
		frees(t, p, m, h)
	}
	for range 9 {
		takes(t, p, m)
	}
	for _, h := range m.lives()[3:] {
		frees(t, p, m, h)
	}
	same(t, "after work", p, m)
}

// start is a pool with live, free and used up places, and its model.
func start(t *testing.T) (*handles.Pool, *model) {
	t.Helper()
	slots, free := []api.Slot{live(4), freed(2), live(1), freed(lastGen), freed(7), live(lastGen)}, []int{4, 1}
	return from(t, slots, free), modelOf(slots, free)
}

func TestFromKeepsNothing(t *testing.T) {
	slots, allSlots := roomy([]api.Slot{live(4), freed(2), live(1), freed(7)}, freed(99))
	free, allFree := roomy([]int{3, 1}, 77)
	wasSlots, wasFree := slices.Clone(allSlots), slices.Clone(allFree)
	p, m := from(t, slots, free), modelOf(slots, free)
	work(t, p, m)
	if !slices.Equal(allSlots, wasSlots) || !slices.Equal(allFree, wasFree) {
		t.Fatalf("what was handed in became %v, %v", allSlots, allFree)
	}
	p, m = from(t, slots, free), modelOf(slots, free)
	spoil(allSlots, live(50))
	spoil(allFree, 0)
	same(t, "what was handed in is changed", p, m)
	work(t, p, m)
}

func TestWrongFromChangesNothing(t *testing.T) {
	slots, free := []api.Slot{freed(2), live(1), freed(3)}, []int{2, 1, 0}
	wasSlots, wasFree := slices.Clone(slots), slices.Clone(free)
	if _, err := handles.From(slots, free); err != api.ErrForm {
		t.Fatalf("From: %v", err)
	}
	if !slices.Equal(slots, wasSlots) || !slices.Equal(free, wasFree) {
		t.Fatalf("what was handed in became %v, %v", slots, free)
	}
}

func TestAnswersAreOwn(t *testing.T) {
	p, m := start(t)
	slots, free := p.Slots()
	list := p.List()
	spoil(slots, live(50))
	spoil(free, 0)
	spoil(list, handle(9, 9))
	same(t, "answers are changed", p, m)

	slots, free = p.Slots()
	list = p.List()
	wasSlots, wasFree, wasList := slices.Clone(slots), slices.Clone(free), slices.Clone(list)
	work(t, p, m)
	if !slices.Equal(slots, wasSlots) || !slices.Equal(free, wasFree) || !slices.Equal(list, wasList) {
		t.Fatalf("earlier answers became %v, %v, %v", slots, free, list)
	}

	_, free = p.Slots()
	_ = append(free, 1, 2)
	same(t, "an answer is appended to", p, m)
}

func TestCloneIsTheSameAndApart(t *testing.T) {
	for _, first := range []string{"the pool", "its clone"} {
		p, m := start(t)
		was := modelOf(m.slots(), m.freeNow())
		q := p.Clone()
		if p == q {
			t.Fatal("a clone is the pool itself")
		}
		same(t, "a clone", q, m)
		if first == "its clone" {
			p, q = q, p
		}
		work(t, p, m)
		same(t, "the other one, changed was "+first, q, was)
		work(t, q, was)
		same(t, "both went one way", p, was)
	}
	same(t, "a clone of a new pool", handles.New().Clone(), &model{})
}

// TestClonesGoOn: a clone of every pool of a long row goes on as the pool does, and leaves it as it was.
func TestClonesGoOn(t *testing.T) {
	p, m := handles.New(), &model{}
	for step := range 200 {
		q, n := p.Clone(), modelOf(m.slots(), m.freeNow())
		same(t, fmt.Sprint("clone at ", step), q, n)
		for range 5 {
			takes(t, q, n)
		}
		frees(t, q, n, n.lives()[step%len(n.lives())])
		same(t, fmt.Sprint("pool at ", step), p, m)
		takes(t, p, m)
		if step%3 == 0 {
			frees(t, p, m, m.lives()[(step*7)%len(m.lives())])
		}
	}
}
