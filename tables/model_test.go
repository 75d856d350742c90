package tables_test

import (
	"math"
	"slices"

	"paddock/api"
	"paddock/masks"
	"paddock/tables"
)

// Each call has just the signature of its chapter.
var (
	_ func() *tables.Store                                    = tables.New
	_ func(*tables.Store, api.Handle, []api.Value) error      = (*tables.Store).Put
	_ func(*tables.Store, api.Handle) (api.Entity, error)     = (*tables.Store).Take
	_ func(*tables.Store, api.Handle, api.Value) error        = (*tables.Store).Add
	_ func(*tables.Store, api.Handle, int) error              = (*tables.Store).Remove
	_ func(*tables.Store, api.Handle, api.Value) error        = (*tables.Store).Set
	_ func(*tables.Store, api.Handle, int) (api.Value, error) = (*tables.Store).Get
	_ func(*tables.Store, api.Handle) (api.Entity, error)     = (*tables.Store).Entity
	_ func(*tables.Store, api.Handle) bool                    = (*tables.Store).Has
	_ func(*tables.Store) []masks.Mask                        = (*tables.Store).Masks
	_ func(*tables.Store, masks.Mask) []api.Handle            = (*tables.Store).In
	_ func(*tables.Store) int                                 = (*tables.Store).Len
	_ func(*tables.Store) *tables.Store                       = (*tables.Store).Clone
)

// The limits are written out here, so that the tests don't hang on the constants that the package itself uses.
const (
	kindsInAll   = 10
	mostEntities = 128
	mostTables   = 32
)

// value is a component, handle a handle.
func value(kind, a, b int) api.Value   { return api.Value{Kind: kind, A: a, B: b} }
func handle(index, gen int) api.Handle { return api.Handle{Index: index, Gen: gen} }

// ranges are the least and the greatest A, and the least and the greatest B, of each kind.
func ranges() [kindsInAll][4]int {
	return [kindsInAll][4]int{
		{-1048576, 1048576, -1048576, 1048576}, // Position
		{0, 1048576, 0, 1048576},               // Extent
		{-1048576, 1048576, -1048576, 1048576}, // Velocity
		{0, 0, 0, 0},                           // Obstacle
		{0, 255, 0, 0},                         // Team
		{0, 1048576, 0, 0},                     // Health
		{-4194304, 4194304, -4194304, 4194304}, // Custom
		{-4194304, 4194304, -4194304, 4194304},
		{-4194304, 4194304, -4194304, 4194304},
		{-4194304, 4194304, -4194304, 4194304},
	}
}

// fault is the error of a component: none, if it is right.
func fault(v api.Value) error {
	if v.Kind < 0 || v.Kind >= kindsInAll {
		return api.ErrKind
	}
	r := ranges()[v.Kind]
	if v.A < r[0] || v.A > r[1] || v.B < r[2] || v.B > r[3] {
		return api.ErrRange
	}
	return nil
}

// edgeValues are components of a kind with all numbers at, just below and just above the ends of its ranges, and far away.
func edgeValues(kind int) []api.Value {
	r := ranges()[kind]
	var list []api.Value
	for _, a := range []int{math.MinInt, r[0] - 1, r[0], r[1], r[1] + 1, math.MaxInt} {
		for _, b := range []int{math.MinInt, r[2] - 1, r[2], r[3], r[3] + 1, math.MaxInt} {
			list = append(list, value(kind, a, b))
		}
	}
	return list
}

// some is a right component of a kind, of its own for each n where the kind has room for it.
func some(kind, n int) api.Value {
	r := ranges()[kind]
	return value(kind, r[0]+n%(r[1]-r[0]+1), r[2]+(3*n)%(r[3]-r[2]+1))
}

// rowOf are components of all kinds of a mask, rising.
func rowOf(m masks.Mask, n int) []api.Value {
	var row []api.Value
	for kind := range kindsInAll {
		if m>>kind&1 == 1 {
			row = append(row, some(kind, n+kind))
		}
	}
	return row
}

// maskOf is the mask of a row that rises by kind: the tests' own reckoning.
func maskOf(row []api.Value) (m masks.Mask) {
	for _, v := range row {
		m += 1 << v.Kind
	}
	return m
}

// model is a store that has no tables: a list of whole entities, laid in new memory at every change; masks are counted anew each time.
type model struct {
	list []api.Entity
}

// copied is an entity in memory of its own.
func copied(e api.Entity) api.Entity {
	return api.Entity{Handle: e.Handle, Values: slices.Clone(e.Values)}
}

// isRow tells whether a row is right.
func isRow(row []api.Value) bool {
	for i, v := range row {
		if fault(v) != nil || i > 0 && row[i-1].Kind >= v.Kind {
			return false
		}
	}
	return true
}

// masksOf are the masks of entities, rising, each once.
func masksOf(list []api.Entity) []masks.Mask {
	var all []masks.Mask
	for _, e := range list {
		all = append(all, maskOf(e.Values))
	}
	slices.Sort(all)
	return slices.Compact(all)
}

// entity is an entity.
func (m *model) entity(h api.Handle) (api.Entity, error) {
	for _, e := range m.list {
		if e.Handle == h {
			return copied(e), nil
		}
	}
	return api.Entity{}, api.ErrNone
}

// without are all entities but the handle's.
func (m *model) without(h api.Handle) []api.Entity {
	var rest []api.Entity
	for _, e := range m.list {
		if e.Handle != h {
			rest = append(rest, e)
		}
	}
	return rest
}

// becomes are the entities that the store has from now on, if they are few enough and of few enough masks.
func (m *model) becomes(list []api.Entity) error {
	if len(list) > mostEntities || len(masksOf(list)) > mostTables {
		return api.ErrFull
	}
	m.list = list
	return nil
}

// put puts an entity in.
func (m *model) put(h api.Handle, row []api.Value) error {
	if _, err := m.entity(h); err == nil {
		return api.ErrExists
	}
	if !isRow(row) {
		return api.ErrForm
	}
	return m.becomes(append(m.without(h), copied(api.Entity{Handle: h, Values: row})))
}

// take takes one out.
func (m *model) take(h api.Handle) (api.Entity, error) {
	e, err := m.entity(h)
	m.list = m.without(h)
	return e, err
}

// get is a component.
func (m *model) get(h api.Handle, kind int) (api.Value, error) {
	e, err := m.entity(h)
	if err != nil {
		return api.Value{}, err
	}
	for _, v := range e.Values {
		if v.Kind == kind {
			return v, nil
		}
	}
	return api.Value{}, api.ErrKind
}

// lay is the entities with this one's component of a kind replaced by these (none, or one).
func (m *model) lay(h api.Handle, kind int, values ...api.Value) []api.Entity {
	e, _ := m.entity(h)
	now := api.Entity{Handle: h}
	for k := range kindsInAll {
		if k == kind {
			now.Values = append(now.Values, values...)
			continue
		}
		for _, v := range e.Values {
			if v.Kind == k {
				now.Values = append(now.Values, v)
			}
		}
	}
	return append(m.without(h), now)
}

// add adds a component.
func (m *model) add(h api.Handle, v api.Value) error {
	_, err := m.get(h, v.Kind)
	if err == api.ErrNone {
		return err
	}
	if wrong := fault(v); wrong != nil {
		return wrong
	}
	if err == nil {
		return api.ErrExists
	}
	return m.becomes(m.lay(h, v.Kind, v))
}

// remove removes one.
func (m *model) remove(h api.Handle, kind int) error {
	if _, err := m.get(h, kind); err != nil {
		return err
	}
	return m.becomes(m.lay(h, kind))
}

// set sets one.
func (m *model) set(h api.Handle, v api.Value) error {
	if _, err := m.get(h, v.Kind); err != nil {
		return err
	}
	if err := fault(v); err != nil {
		return err
	}
	return m.becomes(m.lay(h, v.Kind, v))
}

// in are the handles of a mask, rising.
func (m *model) in(mask masks.Mask) []api.Handle {
	var list []api.Handle
	for _, e := range m.list {
		if maskOf(e.Values) == mask {
			list = append(list, e.Handle)
		}
	}
	slices.SortFunc(list, func(a, b api.Handle) int {
		if a.Index < b.Index || a.Index == b.Index && a.Gen < b.Gen {
			return -1
		}
		return 1
	})
	return list
}

// clone is a model that is the same.
func (m *model) clone() *model { return &model{slices.Clone(m.list)} }

// equal tells whether two entities are the same.
func equal(a, b api.Entity) bool {
	return a.Handle == b.Handle && slices.Equal(a.Values, b.Values)
}

// strangeNumbers are neither places nor generations nor kinds of any store of these tests; many of them would be, cut to fewer bits.
func strangeNumbers() []int {
	return []int{
		math.MinInt, math.MinInt + 1, -1 << 62, -1 << 32, -1<<32 + 1, math.MinInt32, -1 << 16, -256, -255, -128, -2, -1,
		1 << 16, 1<<16 + 1, math.MaxInt32, 1 << 32, 1<<32 + 1, 1 << 62, math.MaxInt - 1, math.MaxInt,
	}
}
