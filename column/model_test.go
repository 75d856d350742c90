package column_test

import (
	"fmt"
	"math"
	"slices"
	"testing"

	"paddock/api"
	"paddock/column"
)

// model is a column that lays its things in new memory at every change, and moves none.
type model[T any] struct {
	things []T
	most   int
}

// modelOf is the model of an empty column.
func modelOf[T any](most int) *model[T] {
	if most < 0 {
		most = 0
	}
	return &model[T]{most: most}
}

// push puts all of these behind, or none.
func (m *model[T]) push(things []T) error {
	longer := slices.Concat(m.things, things)
	if len(longer) > m.most {
		return api.ErrFull
	}
	m.things = longer
	return nil
}

// put is the things with x at a place.
func (m *model[T]) put(i int, x T) []T {
	var list []T
	for k, y := range m.things {
		if k == i {
			y = x
		}
		list = append(list, y)
	}
	return list
}

// get is the thing at a place.
func (m *model[T]) get(i int) (x T, err error) {
	for k, y := range m.things {
		if k == i {
			return y, nil
		}
	}
	return x, api.ErrRange
}

// set puts x to a place.
func (m *model[T]) set(i int, x T) error {
	if _, err := m.get(i); err != nil {
		return err
	}
	m.things = m.put(i, x)
	return nil
}

// take takes a thing out.
func (m *model[T]) take(i int) (T, error) {
	x, err := m.get(i)
	if err != nil {
		return x, err
	}
	last, _ := m.get(len(m.things) - 1)
	m.things = m.put(i, last)[:len(m.things)-1]
	return x, nil
}

// clone is a model that is the same.
func (m *model[T]) clone() *model[T] {
	return &model[T]{things: slices.Clone(m.things), most: m.most}
}

// same holds all that a column answers without a change against the model, with the places beyond its ends.
func same[T comparable](t *testing.T, when string, c *column.Column[T], m *model[T]) {
	t.Helper()
	if c.Len() != len(m.things) || c.Most() != m.most {
		t.Fatalf("%s: Len: %d, Most: %d; asked is %d, %d", when, c.Len(), c.Most(), len(m.things), m.most)
	}
	if got := c.All(); !slices.Equal(got, m.things) {
		t.Fatalf("%s: All: %v; asked is %v", when, got, m.things)
	}
	for i := -2; i < len(m.things)+3; i++ {
		want, wantErr := m.get(i)
		if got, err := c.Get(i); got != want || err != wantErr {
			t.Fatalf("%s: Get(%d): %v, %v; asked is %v, %v", when, i, got, err, want, wantErr)
		}
	}
}

// pushes pushes to both, and holds one against the other.
func pushes[T any](t *testing.T, c *column.Column[T], m *model[T], things ...T) {
	t.Helper()
	want := m.push(things)
	if err := c.Push(things...); err != want {
		t.Fatalf("Push of %d things to %d of %d: %v; asked is %v", len(things), len(m.things), m.most, err, want)
	}
}

// sets sets a thing of both, and holds one against the other.
func sets[T any](t *testing.T, c *column.Column[T], m *model[T], i int, x T) {
	t.Helper()
	want := m.set(i, x)
	if err := c.Set(i, x); err != want {
		t.Fatalf("Set(%d) of %d things: %v; asked is %v", i, len(m.things), err, want)
	}
}

// takes takes a thing of both, and holds one against the other.
func takes[T comparable](t *testing.T, c *column.Column[T], m *model[T], i int) {
	t.Helper()
	n := len(m.things)
	want, wantErr := m.take(i)
	if got, err := c.Take(i); got != want || err != wantErr {
		t.Fatalf("Take(%d) of %d things: %v, %v; asked is %v, %v", i, n, got, err, want, wantErr)
	}
}

// of is a column of these things, and its model.
func of[T comparable](t *testing.T, most int, things ...T) (*column.Column[T], *model[T]) {
	t.Helper()
	c, m := column.New[T](most), modelOf[T](most)
	pushes(t, c, m, things...)
	same(t, fmt.Sprint("a column of ", things), c, m)
	return c, m
}

// rise are n numbers from first on.
func rise(first, n int) []int {
	var list []int
	for i := range n {
		list = append(list, first+i)
	}
	return list
}

// strangeNumbers are no places of a short column; many of them would be, cut to fewer bits.
func strangeNumbers() []int {
	return []int{
		math.MinInt, math.MinInt + 1, -1 << 62, -1 << 32, -1<<32 + 1, math.MinInt32, -1 << 16, -256, -255, -128, -2, -1,
		128, 256, 257, 1 << 16, 1<<16 + 1, math.MaxInt32, 1 << 32, 1<<32 + 1, 1 << 62, math.MaxInt - 1, math.MaxInt,
	}
}
