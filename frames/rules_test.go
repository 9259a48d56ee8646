package frames_test

import (
	"math"
	"slices"
	"testing"

	"kraal/api"
)

// some are stacks' frames of all sorts.
func some() [][]row {
	return [][]row{{}, {{}}, {{5}}, {{1, 2}}, {{0, 0}, {0}}, {{7, math.MaxUint64}, {}, {0, 3}}, {{}, {8, 9}, {}}, full()[:3], full()}
}

// spoil writes into all of a list, and appends to it, also behind its end.
func spoil(words []uint64) {
	for i := range words {
		words[i] ^= 99
	}
	_ = append(words, 77)
	_ = append(words[:0], 78)
	behind := words[:cap(words)]
	for i := range behind {
		behind[i] = 79
	}
}

// TestR3AllIsNew: who writes into what All answers, or behind its end, changes neither a slot nor another answer.
func TestR3AllIsNew(t *testing.T) {
	for _, rows := range some() {
		p := filled(t, rows...)
		first, second := p.stack.All(), p.stack.All()
		spoil(first)
		if !slices.Equal(second, slices.Concat(rows...)) {
			t.Errorf("another answer was changed: got %v, want %v", second, rows)
		}
		p.wantRows(rows...)
		if len(rows) < deep {
			p.push(wide)
			p.wantPlain()
		}
		p.popAll()
	}
}

// TestR3PopIsNew: who writes into what Pop answers, or behind its end, changes no slot of a frame that is there, none of one that comes, and no other answer.
func TestR3PopIsNew(t *testing.T) {
	for _, rows := range some() {
		p := filled(t, rows...)
		var done [][]uint64
		for len(p.plain) > 0 {
			got, e := p.stack.Pop()
			if e != api.OK {
				t.Fatalf("Pop: got %v", e)
			}
			last := len(p.plain) - 1
			if !slices.Equal(got, p.plain[last]) {
				t.Errorf("Pop: got %v, want %v", got, p.plain[last])
			}
			p.plain = slices.Clone(p.plain[:last])
			spoil(got)
			for _, words := range done {
				if slices.ContainsFunc(words, func(v uint64) bool { return v != 79 }) {
					t.Errorf("another answer was changed: got %v", words)
				}
			}
			done = append(done, got[:cap(got)])
			p.wantPlain()
			p.push(wide)
			p.wantPlain()
			spoil(got)
			p.wantPlain()
			fill(p, wide, 900)
			p.pop()
		}
	}
}

// TestR3PopStays: what Pop answered stays, whatever is pushed and put later, where it stood too.
func TestR3PopStays(t *testing.T) {
	p := filled(t, row{1}, row{4, 0, 9})
	got, _ := p.stack.Pop()
	p.plain = p.plain[:1]
	p.push(3)
	fill(p, 3, 50)
	p.push(16)
	fill(p, 16, 60)
	if want := (row{4, 0, 9}); !slices.Equal(got, want) {
		t.Errorf("an answer changed later: got %v, want %v", got, want)
	}
	p.pop()
	p.pop()
	p.set(0, 2)
	if want := (row{4, 0, 9}); !slices.Equal(got, want) {
		t.Errorf("an answer changed later: got %v, want %v", got, want)
	}
	p.wantRows(row{2})
}

// TestR3AllStays: what All answered stays, whatever is pushed, put and popped later.
func TestR3AllStays(t *testing.T) {
	p := filled(t, row{1, 2}, row{4, 0, 9})
	got := p.stack.All()
	want := row{1, 2, 4, 0, 9}
	p.set(0, 5)
	p.set(1, 6)
	p.push(2)
	fill(p, 2, 50)
	p.pop()
	p.pop()
	p.set(1, 8)
	p.push(4)
	if !slices.Equal(got, want) {
		t.Errorf("an answer changed later: got %v, want %v", got, want)
	}
	p.wantRows(row{1, 8}, row{0, 0, 0, 0})
}

// TestR4NilIsEmpty: the list of none has no items, however often it is asked, and may be nil: of no frames, and of frames without slots.
func TestR4NilIsEmpty(t *testing.T) {
	p := made(t)
	for range 3 {
		if got := p.stack.All(); len(got) != 0 {
			t.Errorf("All of none: got %v", got)
		}
		if got, e := p.stack.Pop(); len(got) != 0 || e != api.ErrNone {
			t.Errorf("Pop of none: got %v, %v", got, e)
		}
		p.push(0)
		p.push(0)
		if got := p.stack.All(); len(got) != 0 {
			t.Errorf("All of two frames without slots: got %v", got)
		}
		p.wantPop(api.OK)
		p.wantPop(api.OK)
		p.plain = nil
	}
}

// TestR5Apart: two stacks have nothing to do with each other.
func TestR5Apart(t *testing.T) {
	p, q := made(t), made(t)
	p.push(2)
	p.set(0, 5)
	q.wantRows()
	q.wantPop(api.ErrNone)
	q.push(3)
	q.set(0, 6)
	q.set(1, 7)
	p.wantRows(row{5, 0})
	made(t).wantRows()
	p.pop()
	q.wantRows(row{6, 7, 0})
	p.push(3)
	p.wantRows(row{0, 0, 0})
	for range deep {
		q.push(wide)
	}
	p.push(1)
	p.wantRows(row{0, 0, 0}, row{0})
}

// TestR5AskingChangesNothing: Depth, Get and All, however often, of whatever, change nothing.
func TestR5AskingChangesNothing(t *testing.T) {
	for _, rows := range some() {
		p := filled(t, rows...)
		for range 5 {
			p.wantPlain()
		}
		p.wantRows(rows...)
		p.popAll()
	}
}
