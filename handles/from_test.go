package handles_test

import (
	"fmt"
	"math"
	"slices"
	"testing"

	"paddock/api"
	"paddock/handles"
)

// lists are all lists of at most n of these things.
func lists[T any](n int, things ...T) [][]T {
	all := [][]T{nil}
	for last := all; n > 0; n-- {
		var longer [][]T
		for _, list := range last {
			for _, x := range things {
				longer = append(longer, append(slices.Clone(list), x))
			}
		}
		all, last = append(all, longer...), longer
	}
	return all
}

// arePools tells by counting whether slots and free places are a pool's.
func arePools(slots []api.Slot, free []int) bool {
	times := map[int]int{}
	for _, i := range free {
		times[i]++
	}
	known := 0
	for i, s := range slots {
		known += times[i]
		least, most := 0, 0
		if !s.Live {
			least, most = 1, 1
		}
		if s.Gen == lastGen {
			least = 0
		}
		if s.Gen < 1 || s.Gen > lastGen || times[i] < least || times[i] > most {
			return false
		}
	}
	return known == len(free) && len(slots) <= mostEntities
}

// checkFrom holds From to the pool of what is a pool's, and to ErrForm of all else.
func checkFrom(t *testing.T, slots []api.Slot, free []int) {
	t.Helper()
	p, err := handles.From(slots, free)
	if !arePools(slots, free) {
		if p != nil || err != api.ErrForm {
			t.Fatalf("From(%v, %v): %v, %v", slots, free, p, err)
		}
		return
	}
	if p == nil || err != nil {
		t.Fatalf("From(%v, %v): %v, %v", slots, free, p, err)
	}
	same(t, fmt.Sprint("From of ", slots, free), p, modelOf(slots, free))
}

func TestFromOfAllSmall(t *testing.T) {
	var kinds []api.Slot
	for _, gen := range []int{0, 1, 2, lastGen - 1, lastGen, lastGen + 1} {
		kinds = append(kinds, live(gen), freed(gen))
	}
	places := lists(3, -1, 0, 1, 2)
	for _, slots := range lists(2, kinds...) {
		for _, free := range places {
			checkFrom(t, slots, free)
		}
	}
	for _, slots := range lists(4, live(3), freed(3), freed(lastGen)) {
		for _, free := range lists(4, 0, 1, 2, 3) {
			checkFrom(t, slots, free)
		}
	}
}

func TestFromByHand(t *testing.T) {
	for _, c := range []struct {
		slots []api.Slot
		free  []int
		right bool
	}{
		{nil, nil, true},
		{[]api.Slot{}, []int{}, true},
		{[]api.Slot{live(1)}, nil, true},
		{[]api.Slot{freed(1)}, []int{0}, true},
		{[]api.Slot{freed(1)}, nil, false},
		{[]api.Slot{live(1)}, []int{0}, false},
		{[]api.Slot{freed(5), live(2), freed(3)}, []int{2, 0}, true},
		{[]api.Slot{freed(5), live(2), freed(3)}, []int{0, 2}, true},
		{[]api.Slot{freed(5), live(2), freed(3)}, []int{0, 2, 0}, false},
		{[]api.Slot{freed(5), live(2), freed(3)}, []int{0, 0}, false},
		{[]api.Slot{freed(5), live(2), freed(3)}, []int{0}, false},
		{[]api.Slot{freed(5), live(2), freed(3)}, []int{0, 1, 2}, false},
		{[]api.Slot{freed(5), live(2), freed(3)}, []int{0, 2, 3}, false},
		{[]api.Slot{freed(5), live(2), freed(3)}, []int{0, 2, -1}, false},
		{[]api.Slot{freed(lastGen), live(lastGen)}, nil, true},
		{[]api.Slot{freed(lastGen), live(lastGen)}, []int{0}, true},
		{[]api.Slot{freed(lastGen), live(lastGen)}, []int{0, 0}, false},
		{[]api.Slot{freed(lastGen), live(lastGen)}, []int{1}, false},
		{[]api.Slot{freed(lastGen - 1)}, nil, false},
		{[]api.Slot{freed(lastGen + 1)}, nil, false},
		{[]api.Slot{freed(lastGen + 1)}, []int{0}, false},
		{[]api.Slot{live(lastGen + 1)}, nil, false},
		{[]api.Slot{live(0)}, nil, false},
		{[]api.Slot{freed(0)}, []int{0}, false},
		{[]api.Slot{live(1), live(-1)}, nil, false},
		{nil, []int{0}, false},
		{many(128, live(1)), nil, true},
		{many(128, freed(1)), rise(128), true},
		{many(128, freed(1)), rise(127), false},
		{many(128, freed(1)), rise(129), false},
		{many(128, freed(1)), append(rise(127), 126), false},
		{many(129, live(1)), nil, false},
		{many(129, freed(1)), rise(129), false},
		{many(129, freed(lastGen)), nil, false},
		{many(100000, live(1)), nil, false},
		{many(100000, freed(2)), rise(100000), false},
		{many(2, freed(2)), slices.Repeat([]int{1}, 100000), false},
		{many(2, freed(2)), rise(100000), false},
	} {
		p, err := handles.From(c.slots, c.free)
		if got := p != nil && err == nil; got != c.right || !got && (p != nil || err != api.ErrForm) {
			t.Errorf("From(%d slots, %d places: %.60v, %.60v): %v, %v", len(c.slots), len(c.free), c.slots, c.free, p != nil, err)
		}
		checkFrom(t, c.slots, c.free)
	}
}

func TestFromOfStrangeNumbers(t *testing.T) {
	for _, n := range strangeNumbers() {
		checkFrom(t, many(3, live(1)), []int{n})
		checkFrom(t, []api.Slot{freed(2), live(1)}, []int{0, n})
		checkFrom(t, []api.Slot{freed(2), live(1)}, []int{n})
		checkFrom(t, many(128, freed(2)), append(rise(127), n))
		checkFrom(t, []api.Slot{live(1), live(n)}, nil)
		checkFrom(t, []api.Slot{freed(n), live(1)}, []int{0})
	}
	for _, gen := range []int{math.MinInt, -lastGen, 1 << 32, 1<<32 + 1, math.MaxInt} {
		checkFrom(t, []api.Slot{live(gen)}, nil)
		checkFrom(t, []api.Slot{freed(gen)}, []int{0})
		checkFrom(t, []api.Slot{freed(gen)}, nil)
	}
}

// TestFromGoesOn: a pool of slots takes and frees as one that grew to them.
func TestFromGoesOn(t *testing.T) {
	for _, slots := range lists(4, live(1), freed(2), live(lastGen), freed(lastGen)) {
		for _, free := range lists(4, 0, 1, 2, 3) {
			if !arePools(slots, free) {
				continue
			}
			p, m := from(t, slots, free), modelOf(slots, free)
			for _, h := range m.lives() {
				takes(t, p, m)
				frees(t, p, m, h)
			}
			for range 5 {
				takes(t, p, m)
			}
			same(t, fmt.Sprint(slots, free), p, m)
		}
	}
}
