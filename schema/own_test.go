package schema_test

import (
	"slices"
	"testing"

	"paddock/api"
	"paddock/schema"
)

// roomy is a row with room behind it, into which an append of its own would write, and all of its memory.
func roomy(row []api.Value) (list, whole []api.Value) {
	behind := value(5, 77, 0)
	whole = slices.Concat(row, []api.Value{behind, behind, behind, behind})
	return whole[:len(row)], whole
}

// spoil changes all of a row's memory, what lies behind it too.
func spoil(row []api.Value) {
	row = row[:cap(row)]
	for i := range row {
		row[i] = value(-7, -7, -7)
	}
}

// checkOwn holds a call to this: of a row that is handed in nothing changes, neither by the call nor by a change of its answer; nor does a change of the row, or of another answer, show in an answer.
func checkOwn(t *testing.T, name string, row []api.Value, call func(row []api.Value) []api.Value) {
	t.Helper()
	list, whole := roomy(row)
	was := slices.Clone(whole)
	stays := func(when string) {
		t.Helper()
		if !slices.Equal(whole, was) {
			t.Fatalf("%s of %v: after %s it is %v", name, row, when, whole)
		}
	}
	got := call(list)
	stays("the call")
	want := slices.Clone(got)
	spoil(call(list))
	stays("a change of the answer")
	same(t, name+", another answer changed", got, want)
	spoil(whole)
	same(t, name+", the row changed", got, want)
}

// rowCall is Row, its error left out.
func rowCall(row []api.Value) []api.Value {
	got, _ := schema.Row(row...)
	return got
}

func TestRowsAreOwn(t *testing.T) {
	allRows(func(kinds []int, row []api.Value) {
		checkOwn(t, "Row", row, rowCall)
		turned := slices.Clone(row)
		slices.Reverse(turned)
		checkOwn(t, "Row", turned, rowCall)
		for k := -1; k <= kindsInAll; k++ {
			checkOwn(t, "Put", row, func(row []api.Value) []api.Value { return schema.Put(row, value(k, 0, 0)) })
			checkOwn(t, "Drop", row, func(row []api.Value) []api.Value { return schema.Drop(row, k) })
		}
	})
}

func TestWrongRowsAreOwn(t *testing.T) {
	allLists(3, mixed(), func(row []api.Value) {
		checkOwn(t, "Row", row, rowCall)
		for _, k := range []int{-1, 0, 3, 4, 9, 10} {
			checkOwn(t, "Put", row, func(row []api.Value) []api.Value { return schema.Put(row, value(k, 0, 0)) })
			checkOwn(t, "Drop", row, func(row []api.Value) []api.Value { return schema.Drop(row, k) })
		}
	})
}

// TestQuestionsLeaveTheirRow: what a row is asked doesn't change it.
func TestQuestionsLeaveTheirRow(t *testing.T) {
	questions := func(row []api.Value) []api.Value {
		schema.Right(row)
		schema.Mask(row)
		schema.Box(row)
		schema.Blocks(row)
		for k := -1; k <= kindsInAll; k++ {
			schema.Find(row, k)
		}
		return nil
	}
	allRows(func(kinds []int, row []api.Value) { checkOwn(t, "a question", row, questions) })
	allLists(3, mixed(), func(row []api.Value) { checkOwn(t, "a question", row, questions) })
}
