package column_test

import (
	"fmt"
	"runtime"
	"slices"
	"testing"
	"weak"

	"paddock/column"
)

// roomy is a list with room behind it, into which an append of its own would write, and all of its memory.
func roomy(things []int) (list, whole []int) {
	whole = slices.Concat(things, []int{77, 77, 77, 77})
	return whole[:len(things)], whole
}

// spoil changes all of a list's memory, what lies behind it too.
func spoil(list []int) {
	list = list[:cap(list)]
	for i := range list {
		list[i] = -7
	}
}

// work changes each thing of a column, and lets it shrink and grow.
func work(t *testing.T, c *column.Column[int], m *model[int]) {
	t.Helper()
	for i := range c.Len() {
		sets(t, c, m, i, 1000+i)
	}
	for range c.Len() / 2 {
		takes(t, c, m, 0)
	}
	for i := range 6 {
		pushes(t, c, m, rise(2000+i, i%3)...)
	}
	same(t, "after work", c, m)
}

func TestPushKeepsNothing(t *testing.T) {
	for n := range 12 {
		list, whole := roomy(rise(10, n))
		was := slices.Clone(whole)
		c, m := column.New[int](20), modelOf[int](20)
		pushes(t, c, m, list...)
		spoil(whole)
		same(t, "what was handed in is changed", c, m)

		copy(whole, was)
		work(t, c, m)
		if !slices.Equal(whole, was) {
			t.Fatalf("what was handed in became %v", whole)
		}
		pushes(t, c, m, list...)
		spoil(whole)
		same(t, "what was handed in behind others is changed", c, m)
	}
}

func TestRefusedPushKeepsNothing(t *testing.T) {
	for held := range 8 {
		c, m := of(t, 8, rise(0, held)...)
		list, whole := roomy(rise(10, 9))
		was := slices.Clone(whole)
		pushes(t, c, m, list...)
		if !slices.Equal(whole, was) {
			t.Fatalf("what was handed in became %v", whole)
		}
		spoil(whole)
		same(t, "after a Push that was refused", c, m)
		work(t, c, m)
	}
}

// TestPushOfItsOwn: what All answers may be pushed again.
func TestPushOfItsOwn(t *testing.T) {
	c, m := of(t, 40, rise(0, 5)...)
	for range 3 {
		pushes(t, c, m, c.All()...)
		same(t, "pushed once more", c, m)
	}
}

func TestAnswersAreOwn(t *testing.T) {
	for n := range 12 {
		c, m := of(t, 20, rise(0, n)...)
		all := c.All()
		spoil(all)
		_ = append(c.All(), 1, 2, 3)
		same(t, "answers are changed", c, m)

		all = c.All()
		was := slices.Clone(all)
		work(t, c, m)
		if !slices.Equal(all, was) {
			t.Fatalf("an earlier answer became %v", all)
		}
		one, two := c.All(), c.All()
		spoil(one)
		if !slices.Equal(two, m.things) {
			t.Fatalf("a change of one answer shows in another one: %v", two)
		}
	}
}

func TestCloneIsTheSameAndApart(t *testing.T) {
	for n := range 12 {
		for _, first := range []string{"the column", "its clone"} {
			c, m := of(t, 12, rise(0, n+1)...)
			takes(t, c, m, 0) // now there is room behind the last thing
			was := m.clone()
			d := c.Clone()
			if c == d {
				t.Fatal("a clone is the column itself")
			}
			same(t, "a clone", d, was)
			if first == "its clone" {
				c, d = d, c
			}
			work(t, c, m)
			same(t, "the other one, changed was "+first, d, was)
			work(t, d, was)
			same(t, "both went one way", c, was)
		}
	}
	for _, most := range []int{-3, 0, 5} {
		d, m := column.New[int](most).Clone(), modelOf[int](most)
		same(t, "a clone of an empty one", d, m)
		pushes(t, d, m, 1)
		same(t, "a clone of an empty one, pushed to", d, m)
	}
}

// great is a thing that is laid in memory of its own.
type great struct {
	self *great
	room [100]int
}

// links are a column of n things, and of each a link that keeps nothing.
func links(n int) (*column.Column[*great], []weak.Pointer[great]) {
	c := column.New[*great](n)
	var list []weak.Pointer[great]
	for range n {
		x := &great{}
		x.self = x
		list = append(list, weak.Make(x))
		c.Push(x)
	}
	return c, list
}

// TestTakenThingsAreLeft: a thing that went isn't kept by the place that it had, nor by that of the last one.
func TestTakenThingsAreLeft(t *testing.T) {
	c, list := links(8)
	kept := rise(0, 8)
	for _, i := range []int{7, 0, 2, 4, 1, 1, 1, 0} {
		if _, err := c.Take(i); err != nil {
			t.Fatal(err)
		}
		kept[i] = kept[len(kept)-1]
		kept = kept[:len(kept)-1]
		runtime.GC()
		for k, link := range list {
			if lives := link.Value() != nil; lives != slices.Contains(kept, k) {
				t.Errorf("after Take(%d) %d things are held; thing %d is kept: %v", i, c.Len(), k, lives)
			}
		}
	}
	runtime.KeepAlive(c)
}

// TestSetThingsAreLeft: nor is one that another one stands in for.
func TestSetThingsAreLeft(t *testing.T) {
	c, list := links(3)
	for i := range list {
		c.Set(i, nil)
		runtime.GC()
		for k, link := range list {
			if lives := link.Value() != nil; lives != (k > i) {
				t.Errorf("%s: thing %d is kept: %v", fmt.Sprint("after Set of ", i), k, lives)
			}
		}
	}
	runtime.KeepAlive(c)
}
