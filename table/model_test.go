package table_test

import (
	"fmt"
	"math"
	"slices"
	"testing"

	"paddock/api"
	"paddock/masks"
	"paddock/table"
)

// Each call has just the signature of its chapter.
var (
	_ func(masks.Mask) (*table.Table, error)                   = table.New
	_ func(*table.Table, api.Handle, []api.Value) (int, error) = (*table.Table).Add
	_ func(*table.Table, int) (api.Entity, error)              = (*table.Table).Take
	_ func(*table.Table, int, int) (api.Value, error)          = (*table.Table).Get
	_ func(*table.Table, int, api.Value) error                 = (*table.Table).Set
	_ func(*table.Table, int) (api.Entity, error)              = (*table.Table).Entity
	_ func(*table.Table, int) (api.Handle, error)              = (*table.Table).Handle
	_ func(*table.Table) int                                   = (*table.Table).Len
	_ func(*table.Table) masks.Mask                            = (*table.Table).Mask
	_ func(*table.Table) []api.Handle                          = (*table.Table).Handles
	_ func(*table.Table) *table.Table                          = (*table.Table).Clone
)

// The limits are written out here, so that the tests don't hang on the constants that the package itself uses.
const (
	kindsInAll = 10
	mostRows   = 128
)

// value is a component, handle a handle.
func value(kind, a, b int) api.Value   { return api.Value{Kind: kind, A: a, B: b} }
func handle(index, gen int) api.Handle { return api.Handle{Index: index, Gen: gen} }

// ranges are the least and the greatest A, and the least and the greatest B, of each kind.
func ranges() [kindsInAll][4]int {
	return [kindsInAll][4]int{
		{-1048576, 1048576, -1048576, 1048576}, // Position
		{0, 1048576, 0, 1048576},               // Extent
		{-1048576, 1048576, -1048576, 1048576}, // Velocity
		{0, 0, 0, 0},                           // Obstacle
		{0, 255, 0, 0},                         // Team
		{0, 1048576, 0, 0},                     // Health
		{-4194304, 4194304, -4194304, 4194304}, // Custom
		{-4194304, 4194304, -4194304, 4194304},
		{-4194304, 4194304, -4194304, 4194304},
		{-4194304, 4194304, -4194304, 4194304},
	}
}

// fault is the error of a component: none, if it is right.
func fault(v api.Value) error {
	if v.Kind < 0 || v.Kind >= kindsInAll {
		return api.ErrKind
	}
	r := ranges()[v.Kind]
	if v.A < r[0] || v.A > r[1] || v.B < r[2] || v.B > r[3] {
		return api.ErrRange
	}
	return nil
}

// some is a right component of a kind, of its own for each n where the kind has room for it.
func some(kind, n int) api.Value {
	r := ranges()[kind]
	return value(kind, r[0]+n%(r[1]-r[0]+1), r[2]+(3*n)%(r[3]-r[2]+1))
}

// rowOf are components of all kinds of a mask, rising.
func rowOf(m masks.Mask, n int) []api.Value {
	var row []api.Value
	for kind := range kindsInAll {
		if m>>kind&1 == 1 {
			row = append(row, some(kind, n+kind))
		}
	}
	return row
}

// maskOf is the mask of a row that rises by kind: the tests' own reckoning.
func maskOf(row []api.Value) (m masks.Mask) {
	for _, v := range row {
		m += 1 << v.Kind
	}
	return m
}

// model is a table that holds whole entities, and lays them in new memory at every change.
type model struct {
	mask masks.Mask
	rows []api.Entity
}

// copied is an entity in memory of its own.
func copied(e api.Entity) api.Entity {
	return api.Entity{Handle: e.Handle, Values: slices.Clone(e.Values)}
}

// fits tells whether a row is right, and of the mask.
func (m *model) fits(row []api.Value) bool {
	for i, v := range row {
		if fault(v) != nil || i > 0 && row[i-1].Kind >= v.Kind {
			return false
		}
	}
	return maskOf(row) == m.mask
}

// has tells whether there is a place.
func (m *model) has(i int) bool { return i >= 0 && i < len(m.rows) }

// add puts an entity behind the others.
func (m *model) add(h api.Handle, row []api.Value) (int, error) {
	if !m.fits(row) {
		return 0, api.ErrForm
	}
	if len(m.rows) == mostRows {
		return 0, api.ErrFull
	}
	m.rows = append(slices.Clone(m.rows), copied(api.Entity{Handle: h, Values: row}))
	return len(m.rows) - 1, nil
}

// take takes an entity out: the last one is laid where it was, and then the last place goes.
func (m *model) take(i int) (api.Entity, error) {
	e, err := m.entity(i)
	if err != nil {
		return e, err
	}
	last := m.rows[len(m.rows)-1]
	var rest []api.Entity
	for k, x := range m.rows[:len(m.rows)-1] {
		if k == i {
			x = last
		}
		rest = append(rest, x)
	}
	m.rows = rest
	return e, nil
}

// entity is the entity at a place.
func (m *model) entity(i int) (api.Entity, error) {
	if !m.has(i) {
		return api.Entity{}, api.ErrRange
	}
	return copied(m.rows[i]), nil
}

// get is a component.
func (m *model) get(i, kind int) (api.Value, error) {
	if !m.has(i) {
		return api.Value{}, api.ErrRange
	}
	for _, v := range m.rows[i].Values {
		if v.Kind == kind {
			return v, nil
		}
	}
	return api.Value{}, api.ErrKind
}

// set sets one.
func (m *model) set(i int, v api.Value) error {
	if _, err := m.get(i, v.Kind); err != nil {
		return err
	}
	if err := fault(v); err != nil {
		return err
	}
	e := copied(m.rows[i])
	for k, w := range e.Values {
		if w.Kind == v.Kind {
			e.Values[k] = v
		}
	}
	rows := slices.Clone(m.rows)
	rows[i] = e
	m.rows = rows
	return nil
}

// handles are all handles.
func (m *model) handles() []api.Handle {
	var list []api.Handle
	for _, e := range m.rows {
		list = append(list, e.Handle)
	}
	return list
}

// clone is a model that is the same.
func (m *model) clone() *model { return &model{m.mask, slices.Clone(m.rows)} }

// equal tells whether two entities are the same.
func equal(a, b api.Entity) bool {
	return a.Handle == b.Handle && slices.Equal(a.Values, b.Values)
}

// same holds all that a table answers without a change against the model, with the places and kinds beyond their ends.
func same(t *testing.T, when string, got *table.Table, m *model) {
	t.Helper()
	if got.Len() != len(m.rows) || got.Mask() != m.mask {
		t.Fatalf("%s: Len: %d, Mask: %d; asked is %d, %d", when, got.Len(), got.Mask(), len(m.rows), m.mask)
	}
	if list := got.Handles(); !slices.Equal(list, m.handles()) {
		t.Fatalf("%s: Handles: %v; asked is %v", when, list, m.handles())
	}
	for i := -2; i < len(m.rows)+3; i++ {
		want, wantErr := m.entity(i)
		if e, err := got.Entity(i); !equal(e, want) || err != wantErr {
			t.Fatalf("%s: Entity(%d): %v, %v; asked is %v, %v", when, i, e, err, want, wantErr)
		}
		if h, err := got.Handle(i); h != want.Handle || err != wantErr {
			t.Fatalf("%s: Handle(%d): %v, %v; asked is %v, %v", when, i, h, err, want.Handle, wantErr)
		}
		for kind := -1; kind <= kindsInAll; kind++ {
			gets(t, when, got, m, i, kind)
		}
	}
}

// gets holds a Get against the model's.
func gets(t *testing.T, when string, got *table.Table, m *model, i, kind int) {
	t.Helper()
	want, wantErr := m.get(i, kind)
	if v, err := got.Get(i, kind); v != want || err != wantErr {
		t.Fatalf("%s: Get(%d, %d): %v, %v; asked is %v, %v", when, i, kind, v, err, want, wantErr)
	}
}

// adds adds to both, and holds one against the other.
func adds(t *testing.T, got *table.Table, m *model, h api.Handle, row []api.Value) {
	t.Helper()
	n := len(m.rows)
	want, wantErr := m.add(h, row)
	if i, err := got.Add(h, row); i != want || err != wantErr {
		t.Fatalf("Add(%v, %v) to %d of mask %d: %d, %v; asked is %d, %v", h, row, n, m.mask, i, err, want, wantErr)
	}
}

// takes takes an entity of both, and holds one against the other.
func takes(t *testing.T, got *table.Table, m *model, i int) {
	t.Helper()
	n := len(m.rows)
	want, wantErr := m.take(i)
	if e, err := got.Take(i); !equal(e, want) || err != wantErr {
		t.Fatalf("Take(%d) of %d of mask %d: %v, %v; asked is %v, %v", i, n, m.mask, e, err, want, wantErr)
	}
}

// sets sets a component of both, and holds one against the other.
func sets(t *testing.T, got *table.Table, m *model, i int, v api.Value) {
	t.Helper()
	want := m.set(i, v)
	if err := got.Set(i, v); err != want {
		t.Fatalf("Set(%d, %v) of %d of mask %d: %v; asked is %v", i, v, len(m.rows), m.mask, err, want)
	}
}

// of is a table of a mask with n rows, and its model.
func of(t *testing.T, mask masks.Mask, n int) (*table.Table, *model) {
	t.Helper()
	got, err := table.New(mask)
	if got == nil || err != nil {
		t.Fatalf("New(%d): %v, %v", mask, got, err)
	}
	m := &model{mask: mask}
	for i := range n {
		adds(t, got, m, handle(i, i+1), rowOf(mask, 5*i))
	}
	same(t, fmt.Sprintf("%d rows of mask %d", n, mask), got, m)
	return got, m
}

// strangeNumbers are neither places nor kinds; many of them would be, cut to fewer bits.
func strangeNumbers() []int {
	return []int{
		math.MinInt, math.MinInt + 1, -1 << 62, -1 << 32, -1<<32 + 1, math.MinInt32, -1 << 16, -256, -255, -128, -2, -1,
		128, 129, 256, 257, 1 << 16, 1<<16 + 1, math.MaxInt32, 1 << 32, 1<<32 + 1, 1 << 62, math.MaxInt - 1, math.MaxInt,
	}
}
