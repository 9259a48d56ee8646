package globals_test

import (
	"math"
	"testing"

	"kraal/api"
	"kraal/globals"
)

// TestP16_1Example is the chapter's example.
func TestP16_1Example(t *testing.T) {
	s, e := globals.New(2)
	if e != api.OK {
		t.Fatal(e)
	}
	if old, e := s.Set(1, 9); old != 0 || e != api.OK {
		t.Errorf("Set(1, 9): got %d, %v, want 0, OK", old, e)
	}
	if old, e := s.Set(1, 5); old != 9 || e != api.OK {
		t.Errorf("Set(1, 5): got %d, %v, want 9, OK", old, e)
	}
	if v, e := s.Get(2); v != 0 || e != api.ErrRange {
		t.Errorf("Get(2): got %d, %v, want 0, ErrRange", v, e)
	}
}

// TestP16_1New: of each number of slots that there can be: all 0, each one reached, and none behind the last.
func TestP16_1New(t *testing.T) {
	for n := range most + 1 {
		p := made(t, n)
		p.wantWords(make([]uint64, n)...)
		for i := range n {
			p.set(uint64(i), uint64(i)+100)
			p.wantPlain()
		}
		p.set(uint64(n), 7)
		p.wantPlain()
		if t.Failed() {
			t.Fatalf("of %d", n)
		}
	}
}

// TestP16_1NewLimit: the limit that the chapter names is the one of api.
func TestP16_1NewLimit(t *testing.T) {
	if api.MaxGlobals != most {
		t.Fatalf("MaxGlobals: got %d", api.MaxGlobals)
	}
	made(t, most).wantPlain()
	if s, e := globals.New(most + 1); s != nil || e != api.ErrArg {
		t.Errorf("New(%d): got %v, %v, want nil, ErrArg", most+1, s, e)
	}
}

// TestP16_1NewWrong: numbers of slots that there can't be, below and above, far off too.
func TestP16_1NewWrong(t *testing.T) {
	for _, n := range wrong {
		if s, e := globals.New(n); s != nil || e != api.ErrArg {
			t.Errorf("New(%d): got %v, %v, want nil, ErrArg", n, s, e)
		}
	}
}

// TestP16_1None: of no slots there is none to get or to put into, before and behind.
func TestP16_1None(t *testing.T) {
	p := made(t, 0)
	p.wantWords()
	for _, i := range append([]uint64{0, 1, 2, 63}, huge...) {
		for _, v := range values {
			p.wantSet(i, v, 0, api.ErrRange)
			p.wantGet(i, 0, api.ErrRange)
		}
		p.wantWords()
	}
}

// TestP16_1One: the only slot is the first one and the last one.
func TestP16_1One(t *testing.T) {
	p := made(t, 1)
	p.wantWords(0)
	old := uint64(0)
	for _, v := range values {
		p.wantSet(0, v, old, api.OK)
		p.wantGet(0, v, api.OK)
		p.wantSet(1, v, 0, api.ErrRange)
		p.wantGet(0, v, api.OK)
		old = v
	}
	p.plain[0] = old
	p.wantPlain()
}

// TestP16_1Two: each of two is put words, and the other one stays.
func TestP16_1Two(t *testing.T) {
	p := made(t, 2)
	p.wantWords(0, 0)
	p.set(1, 9)
	p.wantWords(0, 9)
	p.set(0, 4)
	p.wantWords(4, 9)
	p.set(1, 5)
	p.wantWords(4, 5)
	p.set(0, 0)
	p.wantWords(0, 5)
	p.set(1, 0)
	p.wantWords(0, 0)
	p.set(0, math.MaxUint64)
	p.wantWords(math.MaxUint64, 0)
	p.set(2, 3)
	p.wantWords(math.MaxUint64, 0)
}

// TestP16_1Ends: the first slot and the last one, of rows of all lengths from two on: no slot between has changed.
func TestP16_1Ends(t *testing.T) {
	for n := 2; n <= most; n++ {
		p := made(t, n)
		want := make([]uint64, n)
		for i := range want {
			want[i] = uint64(1000 + i)
			p.set(uint64(i), want[i])
		}
		p.wantWords(want...)
		p.wantSet(0, 7, 1000, api.OK)
		p.plain[0], want[0] = 7, 7
		p.wantWords(want...)
		p.wantSet(uint64(n-1), 8, uint64(1000+n-1), api.OK)
		p.plain[n-1], want[n-1] = 8, 8
		p.wantWords(want...)
		p.wantSet(uint64(n), 9, 0, api.ErrRange)
		p.wantWords(want...)
		if t.Failed() {
			t.Fatalf("of %d", n)
		}
	}
}

// TestP16_1EachSlot: of many slots each one is put each value, and no other one changes.
func TestP16_1EachSlot(t *testing.T) {
	p := made(t, most)
	for i := range uint64(most) {
		for _, v := range values {
			p.set(i, v)
			p.wantPlain()
		}
		p.set(i, i*i+1)
		p.wantPlain()
		if t.Failed() {
			t.Fatalf("slot %d", i)
		}
	}
}

// TestP16_1NextSet: what Set answers is what the last Set of the same slot put there, whatever came between.
func TestP16_1NextSet(t *testing.T) {
	p := made(t, 3)
	p.wantSet(1, 5, 0, api.OK)
	p.wantSet(0, 6, 0, api.OK)
	p.wantSet(2, 7, 0, api.OK)
	p.wantSet(3, 8, 0, api.ErrRange)
	p.wantSet(1, 9, 5, api.OK)
	p.wantSet(2, 1, 7, api.OK)
	p.wantSet(0, 2, 6, api.OK)
	p.wantSet(1, 3, 9, api.OK)
	p.plain = []uint64{2, 3, 1}
	p.wantPlain()
}

// TestP16_1SameAgain: a slot that is put what it holds already holds it still, and the next Set answers it; 0 too.
func TestP16_1SameAgain(t *testing.T) {
	for _, v := range values {
		p := filled(t, 3, v, 4)
		for range 3 {
			p.wantSet(1, v, v, api.OK)
			p.wantWords(3, v, 4)
		}
		p.wantSet(1, 0, v, api.OK)
		p.wantSet(1, 0, 0, api.OK)
		p.plain[1] = 0
		p.wantWords(3, 0, 4)
	}
}

// TestP16_1Zero: a slot that is put 0 is as one that never was put anything.
func TestP16_1Zero(t *testing.T) {
	p := made(t, 2)
	p.wantSet(0, 0, 0, api.OK)
	p.wantWords(0, 0)
	p.set(0, 12)
	p.set(1, 13)
	p.wantSet(0, 0, 12, api.OK)
	p.plain[0] = 0
	p.wantWords(0, 13)
	p.wantSet(0, 14, 0, api.OK)
	p.plain[0] = 14
	p.wantWords(14, 13)
}

// TestP16_1NoSlot: Get and Set of numbers that are no slot, with values at the ends: ErrRange, with 0, and nothing is changed.
func TestP16_1NoSlot(t *testing.T) {
	for _, words := range [][]uint64{{}, {0}, {7}, {1, 2}, {math.MaxUint64, 0, math.MaxUint64}, make([]uint64, most-1), make([]uint64, most)} {
		p := filled(t, words...)
		n := uint64(len(words))
		for _, i := range append([]uint64{n, n + 1, n + 2, 2*n + 1, n + 1<<32, n + 1<<63}, huge...) {
			p.wantGet(i, 0, api.ErrRange)
			for _, v := range values {
				p.wantSet(i, v, 0, api.ErrRange)
			}
			p.wantGet(i, 0, api.ErrRange)
			p.wantWords(words...)
		}
	}
}

// TestP16_1LenStays: how many there are doesn't change, whatever is put, or refused.
func TestP16_1LenStays(t *testing.T) {
	for _, n := range []int{0, 1, 2, 63, 64} {
		p := made(t, n)
		for i := range uint64(2 * most) {
			p.set(i, i+1)
			if got := p.slots.Len(); got != n {
				t.Fatalf("of %d, behind Set(%d): Len is %d", n, i, got)
			}
		}
	}
}

// TestP16_1AllInOrder: All tells the slots in the order of their numbers, whichever was put something first.
func TestP16_1AllInOrder(t *testing.T) {
	want := make([]uint64, most)
	for i := range want {
		want[i] = uint64(most - i)
	}
	up, down, across := made(t, most), made(t, most), made(t, most)
	for i := range uint64(most) {
		up.set(i, most-i)
		down.set(most-1-i, i+1)
		j := (i*37 + 11) % most // 37 shares no divisor with 64: all come
		across.set(j, most-j)
	}
	up.wantWords(want...)
	down.wantWords(want...)
	across.wantWords(want...)
}
