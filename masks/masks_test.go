package masks_test

import (
	"math"
	"slices"
	"testing"

	"paddock/api"
	"paddock/masks"
)

// kindsInAll is written out here, so that the tests don't hang on the constant that the package itself uses.
const kindsInAll = 10

// Each call has just the signature of its chapter.
var (
	_ func(...int) (masks.Mask, error)              = masks.Of
	_ func(masks.Mask, int) bool                    = masks.Mask.Has
	_ func(masks.Mask, ...int) (masks.Mask, error)  = masks.Mask.With
	_ func(masks.Mask, ...int) (masks.Mask, error)  = masks.Mask.Without
	_ func(masks.Mask) []int                        = masks.Mask.Kinds
	_ func(masks.Mask) int                          = masks.Mask.Count
	_ func(masks.Mask) bool                         = masks.Mask.Right
	_ func(masks.Mask, masks.Mask) bool             = masks.Mask.Holds
	_ func(masks.Mask, masks.Mask) bool             = masks.Mask.Meets
	_ func(masks.Mask, masks.Mask, masks.Mask) bool = masks.Mask.Fits
	_ func(masks.Mask, masks.Mask) bool             = masks.Less
)

// A mask is a number of 64 bits, none of them a sign.
const _ masks.Mask = math.MaxUint64

// mask is the mask of these bits, 0 to 63, added up by doubling: other means than the package's own.
func mask(kinds ...int) masks.Mask {
	var m masks.Mask
	for _, k := range kinds {
		one := masks.Mask(1)
		for range k {
			one += one
		}
		m += one
	}
	return m
}

// parts are all choices of these numbers, each in the order in which these stand.
func parts(numbers ...int) [][]int {
	lists := [][]int{nil}
	for _, n := range numbers {
		for _, list := range slices.Clone(lists) {
			lists = append(lists, append(slices.Clone(list), n))
		}
	}
	return lists
}

// allKinds are 0 to 9.
func allKinds() []int { return []int{0, 1, 2, 3, 4, 5, 6, 7, 8, 9} }

// highBits are bits that no kind has: just behind the kinds, on both sides of 32 bits, the last ones.
func highBits() []int { return []int{10, 11, 31, 32, 62, 63} }

// allRight are the lists of kinds of all masks that are right.
func allRight() [][]int { return parts(allKinds()...) }

// someMasks are the lists of bits of masks that are right and of such as aren't.
func someMasks() [][]int {
	var lists [][]int
	for _, low := range parts(0, 1, 4, 9) {
		for _, high := range parts(highBits()...) {
			lists = append(lists, slices.Concat(low, high))
		}
	}
	return append(lists, sixtyFour())
}

// sixtyFour are all bits.
func sixtyFour() []int {
	var list []int
	for k := range 64 {
		list = append(list, k)
	}
	return list
}

// notKinds are numbers that aren't kinds; many of them would be one, cut to fewer bits or taken as a shift.
func notKinds() []int {
	return []int{
		math.MinInt, math.MinInt + 1, -1 << 32, math.MinInt32, -256, -64, -63, -10, -2, -1,
		10, 11, 31, 32, 33, 63, 64, 65, 128, 255, 256, 257, 1 << 16, math.MaxInt32, 1 << 32, 1<<32 + 3, math.MaxInt - 1, math.MaxInt,
	}
}

// union are the numbers of both lists, rising, each once.
func union(a, b []int) []int {
	return only(sixtyFour(), func(k int) bool { return slices.Contains(a, k) || slices.Contains(b, k) })
}

// without are the numbers of a that b hasn't, rising, each once.
func without(a, b []int) []int {
	return only(sixtyFour(), func(k int) bool { return slices.Contains(a, k) && !slices.Contains(b, k) })
}

func only(list []int, holds func(int) bool) []int {
	var some []int
	for _, n := range list {
		if holds(n) {
			some = append(some, n)
		}
	}
	return some
}

// answers holds an answer of a mask against these bits.
func answers(t *testing.T, call string, got masks.Mask, err error, want []int) {
	t.Helper()
	if err != nil || got != mask(want...) {
		t.Fatalf("%s: %d, %v; asked is %d", call, got, err, mask(want...))
	}
}

// refuses holds an answer against the error of a number that isn't a kind.
func refuses(t *testing.T, call string, list []int, got masks.Mask, err error) {
	t.Helper()
	if err != api.ErrKind || got != 0 {
		t.Fatalf("%s %v: %d, %v", call, list, got, err)
	}
}

func TestOfAllKinds(t *testing.T) {
	for i, kinds := range allRight() {
		got, err := masks.Of(kinds...)
		answers(t, "Of", got, err, kinds)
		if got != masks.Mask(i) { // parts doubles with each kind, so a choice's place is its mask's number
			t.Fatalf("Of(%v): %d", kinds, got)
		}
		slices.Reverse(kinds)
		got, err = masks.Of(kinds...)
		answers(t, "Of from behind", got, err, kinds)
	}
}

func TestOfByHand(t *testing.T) {
	for _, c := range []struct {
		kinds []int
		want  masks.Mask
	}{
		{nil, 0},
		{[]int{}, 0},
		{[]int{0}, 1},
		{[]int{api.Position, api.Extent}, 3},
		{[]int{0, 3}, 9},
		{[]int{3, 0}, 9},
		{[]int{9}, 512},
		{[]int{9, 9, 9}, 512},
		{[]int{2, 5, 2, 5}, 36},
		{[]int{0, 1, 2, 3, 4, 5, 6, 7, 8, 9}, 1023},
	} {
		if got, err := masks.Of(c.kinds...); got != c.want || err != nil {
			t.Errorf("Of(%v): %d, %v", c.kinds, got, err)
		}
	}
}

func TestWrongKindsAreRefused(t *testing.T) {
	for _, wrong := range notKinds() {
		for _, list := range [][]int{{wrong}, {wrong, 0}, {0, wrong}, {3, 9, wrong, 1}, {wrong, wrong}, {1, 1, wrong}} {
			got, err := masks.Of(list...)
			refuses(t, "Of", list, got, err)
			for _, m := range []masks.Mask{0, 1, 9, 512, 1023, 1024, math.MaxUint64} {
				got, err = m.With(list...)
				refuses(t, "With", list, got, err)
				got, err = m.Without(list...)
				refuses(t, "Without", list, got, err)
			}
		}
	}
}

func TestHas(t *testing.T) {
	for _, kinds := range slices.Concat(allRight(), someMasks()) {
		m := mask(kinds...)
		for k := range kindsInAll {
			if got := m.Has(k); got != slices.Contains(kinds, k) {
				t.Fatalf("Mask(%d).Has(%d): %v", m, k, got)
			}
		}
		for _, k := range notKinds() {
			if m.Has(k) {
				t.Fatalf("Mask(%d).Has(%d): true, but it isn't a kind", m, k)
			}
		}
	}
}

// TestHasNoHighBit: a bit from MaxKinds on is no kind's, set or not.
func TestHasNoHighBit(t *testing.T) {
	for k := range 200 {
		if got := masks.Mask(math.MaxUint64).Has(k); got != (k < kindsInAll) {
			t.Errorf("the mask of all bits: Has(%d): %v", k, got)
		}
	}
}

func TestWithAndWithout(t *testing.T) {
	changes := slices.Concat(parts(0, 1, 3, 4, 9), [][]int{{9, 0}, {4, 4}, {1, 0, 1, 4, 0}, {8, 7, 6, 5, 2}, allKinds()})
	for _, kinds := range slices.Concat(allRight(), someMasks()) {
		m := mask(kinds...)
		for _, change := range changes {
			got, err := m.With(change...)
			answers(t, "With", got, err, union(kinds, change))
			got, err = m.Without(change...)
			answers(t, "Without", got, err, without(kinds, change))
		}
		if m != mask(kinds...) {
			t.Fatalf("the mask of %v became %d", kinds, m)
		}
	}
}

func TestWithAndWithoutByHand(t *testing.T) {
	for _, c := range []struct {
		m             masks.Mask
		kinds         []int
		with, without masks.Mask
	}{
		{0, nil, 0, 0},
		{9, nil, 9, 9},
		{9, []int{}, 9, 9},
		{9, []int{0}, 9, 8},
		{9, []int{1}, 11, 9},
		{9, []int{3, 3}, 9, 1},
		{9, []int{0, 3}, 9, 0},
		{9, []int{9, 0}, 521, 8},
		{1023, []int{9}, 1023, 511},
		{1024, []int{0}, 1025, 1024},
		{math.MaxUint64, []int{0}, math.MaxUint64, math.MaxUint64 - 1},
		{1 << 63, []int{9, 8}, 1<<63 + 768, 1 << 63},
	} {
		if got, err := c.m.With(c.kinds...); got != c.with || err != nil {
			t.Errorf("Mask(%d).With(%v): %d, %v", c.m, c.kinds, got, err)
		}
		if got, err := c.m.Without(c.kinds...); got != c.without || err != nil {
			t.Errorf("Mask(%d).Without(%v): %d, %v", c.m, c.kinds, got, err)
		}
	}
}

func TestListsOfKindsStay(t *testing.T) {
	for _, list := range [][]int{nil, {3, 0, 3, 9}, {9, 1, 10, 0}, {-1, 5}} {
		was := slices.Clone(list)
		masks.Of(list...)
		masks.Mask(9).With(list...)
		masks.Mask(9).Without(list...)
		if !slices.Equal(list, was) {
			t.Errorf("the list %v became %v", was, list)
		}
	}
}

func TestKindsAndCount(t *testing.T) {
	for _, bits := range slices.Concat(allRight(), someMasks()) {
		m := mask(bits...)
		if got := m.Kinds(); !slices.Equal(got, bits) {
			t.Fatalf("Mask(%d).Kinds(): %v", m, got)
		}
		if got := m.Count(); got != len(bits) {
			t.Fatalf("Mask(%d).Count(): %d", m, got)
		}
	}
	for k := range 64 {
		if m := mask(k); !slices.Equal(m.Kinds(), []int{k}) || m.Count() != 1 {
			t.Errorf("bit %d: Kinds %v, Count %d", k, m.Kinds(), m.Count())
		}
		but := without(sixtyFour(), []int{k})
		if m := mask(but...); !slices.Equal(m.Kinds(), but) || m.Count() != 63 {
			t.Errorf("all bits but %d: Kinds %v, Count %d", k, m.Kinds(), m.Count())
		}
	}
}

func TestKindsByHand(t *testing.T) {
	for _, c := range []struct {
		m    masks.Mask
		want []int
	}{
		{0, nil},
		{9, []int{0, 3}},
		{1 << 10, []int{10}},
		{1<<63 + 1, []int{0, 63}},
		{1<<32 + 1<<31 + 512, []int{9, 31, 32}},
	} {
		if got := c.m.Kinds(); !slices.Equal(got, c.want) {
			t.Errorf("Mask(%d).Kinds(): %v", c.m, got)
		}
		if got := c.m.Count(); got != len(c.want) {
			t.Errorf("Mask(%d).Count(): %d", c.m, got)
		}
	}
	if got := masks.Mask(math.MaxUint64).Count(); got != 64 {
		t.Errorf("Count of all bits: %d", got)
	}
}

func TestKindsAreOwn(t *testing.T) {
	for _, m := range []masks.Mask{0, 9, 1023, math.MaxUint64} {
		want := slices.Clone(m.Kinds())
		list := m.Kinds()
		list = list[:cap(list)]
		for i := range list {
			list[i] = -7
		}
		if got := m.Kinds(); !slices.Equal(got, want) {
			t.Errorf("Mask(%d).Kinds(), an earlier answer changed: %v", m, got)
		}
	}
}

func TestRight(t *testing.T) {
	for _, bits := range slices.Concat(allRight(), someMasks()) {
		want := !slices.ContainsFunc(bits, func(k int) bool { return k >= kindsInAll })
		if got := mask(bits...).Right(); got != want {
			t.Fatalf("the mask of %v: Right is %v", bits, got)
		}
	}
	for k := range 64 {
		if got := mask(k).Right(); got != (k < kindsInAll) {
			t.Errorf("bit %d: Right is %v", k, got)
		}
		if k >= kindsInAll && (mask(k) + 1023).Right() {
			t.Errorf("all kinds and bit %d: Right is true", k)
		}
	}
}

func TestHoldsAndMeets(t *testing.T) {
	all := someMasks()
	for _, a := range all {
		for _, b := range all {
			m, n := mask(a...), mask(b...)
			shared := len(only(b, func(k int) bool { return slices.Contains(a, k) }))
			if got := m.Holds(n); got != (shared == len(b)) {
				t.Fatalf("Mask(%d).Holds(%d): %v", m, n, got)
			}
			if got := m.Meets(n); got != (shared > 0) {
				t.Fatalf("Mask(%d).Meets(%d): %v", m, n, got)
			}
		}
	}
}

func TestHoldsAndMeetsByHand(t *testing.T) {
	for _, c := range []struct {
		m, n         masks.Mask
		holds, meets bool
	}{
		{0, 0, true, false},
		{9, 0, true, false},
		{0, 9, false, false},
		{9, 9, true, true},
		{9, 1, true, true},
		{1, 9, false, true},
		{9, 6, false, false},
		{9, 10, false, true},
		{1 << 63, 1 << 63, true, true},
		{1 << 31, 1 << 63, false, false},
		{math.MaxUint64, 1 << 40, true, true},
		{1 << 40, math.MaxUint64, false, true},
	} {
		if got := c.m.Holds(c.n); got != c.holds {
			t.Errorf("Mask(%d).Holds(%d): %v", c.m, c.n, got)
		}
		if got := c.m.Meets(c.n); got != c.meets {
			t.Errorf("Mask(%d).Meets(%d): %v", c.m, c.n, got)
		}
	}
}

func TestFits(t *testing.T) {
	all := parts(0, 3, 9, 10, 63)
	for _, a := range all {
		for _, b := range all {
			for _, c := range all {
				has := func(k int) bool { return slices.Contains(a, k) }
				want := len(only(b, has)) == len(b) && len(only(c, has)) == 0
				if got := mask(a...).Fits(mask(b...), mask(c...)); got != want {
					t.Fatalf("the mask of %v: Fits those of %v, %v: %v", a, b, c, got)
				}
			}
		}
	}
}

func TestFitsByHand(t *testing.T) {
	for _, c := range []struct {
		m, with, without masks.Mask
		want             bool
	}{
		{9, 1, 4, true},
		{9, 1, 8, false},
		{9, 2, 4, false},
		{9, 9, 0, true},
		{9, 0, 9, false},
		{9, 0, 6, true},
		{9, 0, 12, false},
		{9, 11, 0, false},
		{9, 1, 1, false},
		{0, 0, 0, true},
		{0, 0, math.MaxUint64, true},
		{0, 1, 0, false},
		{math.MaxUint64, math.MaxUint64, 0, true},
		{math.MaxUint64, 0, 1 << 63, false},
	} {
		if got := c.m.Fits(c.with, c.without); got != c.want {
			t.Errorf("Mask(%d).Fits(%d, %d): %v", c.m, c.with, c.without, got)
		}
	}
}

func TestLess(t *testing.T) {
	rising := []masks.Mask{
		0, 1, 2, 3, 9, 511, 512, 1023, 1024, math.MaxInt32, 1 << 31, math.MaxUint32, 1 << 32,
		math.MaxInt64 - 1, math.MaxInt64, 1 << 63, 1<<63 + 1, math.MaxUint64 - 1, math.MaxUint64,
	}
	for i, a := range rising {
		for k, b := range rising {
			if got := masks.Less(a, b); got != (i < k) {
				t.Errorf("Less(%d, %d): %v", a, b, got)
			}
		}
	}
}
