package census_test

import (
	"reflect"
	"slices"
	"testing"

	"kraal/api"
	"kraal/census"
)

// TestR1AllNumbers: Held ends at every number, of heaps of which something is held and of such of which nothing is.
func TestR1AllNumbers(t *testing.T) {
	for bit := range 64 {
		for _, more := range []uint64{0, 1, 2, 5, 6} {
			region := uint64(1)<<bit + more
			wantHeld(t, made(t, api.Config{Pages: 1}), region)
			if region > 5 {
				wantHeld(t, busy(t), region)
				wantHeld(t, busy(t), -region)
			}
		}
	}
}

// TestR3AnswersAreNew: who writes into what Rows and Held answer, or behind its end, changes no other answer, and nothing that the heap tells.
func TestR3AnswersAreNew(t *testing.T) {
	h := busy(t)
	was := told(h)
	for range 3 {
		rows, again := census.Rows(h), census.Rows(h)
		for i := range rows {
			rows[i] = row(-7, 7, 7, 7, 7, 7)
		}
		_, _ = append(rows, row(9, 9, 9, 9)), append(rows[:0], row(9, 9, 9, 9))
		if !slices.Equal(again, was.rows()) {
			t.Errorf("another answer was changed: %+v", again)
		}
		for id := range uint64(6) {
			held, other := census.Held(h, id), census.Held(h, id)
			clear(held)
			_, _ = append(held, 9), append(held[:0], 9)
			if !slices.Equal(other, was.held(id)) {
				t.Errorf("another answer was changed: %v", other)
			}
		}
		wantPlain(t, h)
	}
	if !reflect.DeepEqual(told(h), was) {
		t.Errorf("the heap was changed: %+v", told(h))
	}
}

// TestR3AnswersStay: what was answered stays, whatever is done at the heap then.
func TestR3AnswersStay(t *testing.T) {
	h := busy(t)
	was := told(h)
	rows, held := census.Rows(h), census.Held(h, 5)
	h.Pop()
	h.Pop()
	h.Pop()
	done(t, h.Set(17, api.Counted, 1), h.SetGlobal(1, 70), h.SetGlobal(1, 0), h.Delete(5), h.Delete(3))
	h.Region(0)
	h.Alloc(1, array(api.Counted, 20))
	if !slices.Equal(rows, was.rows()) || !slices.Equal(held, was.held(5)) {
		t.Errorf("an answer changed later: %+v, %v", rows, held)
	}
	wantPlain(t, h)
}

// TestR3HeapStays: the calls change nothing by which a later call of the heap would answer otherwise.
func TestR3HeapStays(t *testing.T) {
	for _, s := range shapes[:5] {
		m, n := mixed(33), mixed(33)
		asked, unasked := made(t, s.config), made(t, s.config)
		for step := range 300 {
			census.Rows(asked)
			census.Audit(asked)
			census.Held(asked, uint64(step%9))
			rising := step/s.turn%2 == 0
			call, e := m.call(asked, s, rising)
			if _, want := n.call(unasked, s, rising); e != want {
				t.Fatalf("%s: call %d, %s: got %v, want %v", s.name, step, call, e, want)
			}
		}
		if got, want := told(asked), told(unasked); !reflect.DeepEqual(got, want) {
			t.Errorf("%s: got %+v, want %+v", s.name, got, want)
		}
	}
}

// TestR4NilIsEmpty: what there is nothing of is an empty list, or none.
func TestR4NilIsEmpty(t *testing.T) {
	h := made(t, api.Config{Pages: 1})
	for range 2 {
		if len(census.Rows(h)) != 0 || len(census.Held(h, 0)) != 0 || len(census.Held(h, 1)) != 0 || !census.Audit(h) {
			t.Errorf("of nothing: got %v, %v, %v", census.Rows(h), census.Held(h, 1), census.Audit(h))
		}
		done(t, h.Push(0))
	}
	h.Region(0)
	alloc(t, h, 1, array(api.Counted, 0), 1)
	wantRows(t, h, row(1, 1, 2, 1))
	wantHeld(t, h, 1)
}

// TestR5SameAgain: the same heap asked again, and another one that was told the same, answer the same, whatever is asked of others in between.
func TestR5SameAgain(t *testing.T) {
	h, other := busy(t), beside(t)
	done(t, other.SetGlobal(0, 17), other.Set(1, api.Counted, 70))
	for range 20 {
		wantInOut(t, h, []int{1, 0, 1, 2, 2}, []int{0, 1, 0, 0, 2})
		wantInOut(t, busy(t), []int{1, 0, 1, 2, 2}, []int{0, 1, 0, 0, 2})
		wantInOut(t, other, []int{0, 1, 0, 0, 1}, []int{1, 0, 0, 0, 0})
		census.Rows(nil)
		census.Held(nil, 5)
		wantHeld(t, other, 2, 17)
		wantHeld(t, h, 2)
		wantHeld(t, other, 5, 70)
		wantHeld(t, h, 5, 65)
	}
}
