package frames_test

import (
	"math"
	"slices"
	"testing"

	"kraal/api"
	"kraal/frames"
)

// row is a frame's slots.
type row = []uint64

// TestP17_1Example is the chapter's example.
func TestP17_1Example(t *testing.T) {
	s := frames.New()
	if e := s.Push(2); e != api.OK {
		t.Errorf("Push(2): got %v", e)
	}
	if old, e := s.Set(1, 7); old != 0 || e != api.OK {
		t.Errorf("Set(1, 7): got %d, %v, want 0, OK", old, e)
	}
	if e := s.Push(1); e != api.OK {
		t.Errorf("Push(1): got %v", e)
	}
	if got, e := s.Pop(); !slices.Equal(got, row{0}) || e != api.OK {
		t.Errorf("first Pop: got %v, %v, want 0, OK", got, e)
	}
	if got, e := s.Pop(); !slices.Equal(got, row{0, 7}) || e != api.OK {
		t.Errorf("second Pop: got %v, %v, want 0 7, OK", got, e)
	}
	if got := s.Depth(); got != 0 {
		t.Errorf("Depth: got %d, want 0", got)
	}
}

// TestP17_1Limits: the limits that the chapter names are those of api.
func TestP17_1Limits(t *testing.T) {
	if api.MaxSlots != wide || api.MaxFrames != deep {
		t.Fatalf("MaxSlots, MaxFrames: got %d, %d", api.MaxSlots, api.MaxFrames)
	}
}

// TestP17_1NoFrames: of a stack without frames there is nothing to pop, to get or to put into, at any number; before and behind frames.
func TestP17_1NoFrames(t *testing.T) {
	p := made(t)
	for range 3 {
		p.wantRows()
		p.wantPop(api.ErrNone)
		for _, i := range append(row{0, 1, 2, wide - 1, wide}, huge...) {
			p.wantGet(i, 0, api.ErrNone)
			for _, v := range values {
				p.wantSet(i, v, 0, api.ErrNone)
			}
			p.wantGet(i, 0, api.ErrNone)
		}
		p.wantRows()
		p.push(2)
		p.set(0, 5)
		p.set(1, 6)
		p.wantRows(row{5, 6})
		p.pop()
	}
}

// TestP17_1OneFrame: of each number of slots that a frame can have: all 0, each one reached, and none behind the last.
func TestP17_1OneFrame(t *testing.T) {
	for n := range uint64(wide + 1) {
		p := made(t)
		p.push(n)
		p.wantRows(make(row, n))
		for i := range n {
			p.set(i, i+100)
			p.wantPlain()
		}
		p.wantSet(n, 7, 0, api.ErrRange)
		p.wantPlain()
		p.popAll()
		if t.Failed() {
			t.Fatalf("of %d", n)
		}
	}
}

// TestP17_1OneSlot: the only slot is the first one and the last one.
func TestP17_1OneSlot(t *testing.T) {
	p := made(t)
	p.push(1)
	old := uint64(0)
	for _, v := range values {
		p.wantSet(0, v, old, api.OK)
		p.wantGet(0, v, api.OK)
		p.wantSet(1, v, 0, api.ErrRange)
		p.wantGet(0, v, api.OK)
		old = v
	}
	p.wantPop(api.OK, math.MaxUint64)
	p.wantPop(api.ErrNone)
}

// TestP17_1TwoFrames: what the lower one holds stays, whatever is done to the one above; then it is the top one again.
func TestP17_1TwoFrames(t *testing.T) {
	p := made(t)
	p.push(2)
	p.set(0, 4)
	p.set(1, 9)
	p.wantRows(row{4, 9})
	p.push(3)
	p.wantRows(row{4, 9}, row{0, 0, 0})
	p.wantSet(0, 5, 0, api.OK)
	p.wantSet(2, 6, 0, api.OK)
	p.wantSet(3, 7, 0, api.ErrRange)
	p.plain[1] = row{5, 0, 6}
	p.wantRows(row{4, 9}, row{5, 0, 6})
	p.wantPop(api.OK, 5, 0, 6)
	p.plain = p.plain[:1]
	p.wantRows(row{4, 9})
	p.wantGet(2, 0, api.ErrRange)
	p.wantSet(1, 1, 9, api.OK)
	p.wantPop(api.OK, 4, 1)
	p.wantPop(api.ErrNone)
}

// TestP17_1EachPair: two frames of every two numbers of slots, filled: each holds its own.
func TestP17_1EachPair(t *testing.T) {
	for low := range uint64(wide + 1) {
		for high := range uint64(wide + 1) {
			p := made(t)
			p.push(low)
			fill(p, low, 100)
			p.push(high)
			p.wantPlain()
			fill(p, high, 200)
			p.set(high, 1)
			p.wantPlain()
			p.popAll()
			if t.Failed() {
				t.Fatalf("of %d and %d", low, high)
			}
		}
	}
}

// fill puts n words from that one on into the slots of the top frame.
func fill(p *pair, n, from uint64) {
	p.Helper()
	for i := range n {
		p.set(i, from+i)
	}
}

// TestP17_1PushSlots: frames of 0, of 1, of 16 slots, and none of 17.
func TestP17_1PushSlots(t *testing.T) {
	p := made(t)
	p.wantPush(wide+1, api.ErrArg)
	p.wantRows()
	p.push(0)
	p.wantRows(row{})
	p.push(wide)
	p.wantRows(row{}, make(row, wide))
	p.wantPush(wide+1, api.ErrArg)
	p.wantRows(row{}, make(row, wide))
	p.push(1)
	p.wantRows(row{}, make(row, wide), row{0})
}

// TestP17_1PushWrong: numbers of slots that a frame can't have, far off too: ErrArg, and nothing is changed.
func TestP17_1PushWrong(t *testing.T) {
	for _, rows := range [][]row{{}, {{}}, {{0}}, {{7}}, {{1, 2}, {}}, {{}, {3, 0, math.MaxUint64}}, full(), full()[1:]} {
		p := filled(t, rows...)
		for _, n := range huge {
			p.wantPush(n, api.ErrArg)
			p.wantRows(rows...)
		}
		p.popAll()
	}
}

// full are as many frames as there can be, of as many slots as they can have, all different.
func full() []row {
	var rows []row
	for f := range uint64(deep) {
		words := make(row, wide)
		for i := range words {
			words[i] = f<<32 + uint64(i) + 1
		}
		rows = append(rows, words)
	}
	return rows
}

// TestP17_1Full: 64 frames there can be, whatever they are of; of a 65th it is ErrFull, but ErrArg of one that can't be at all.
func TestP17_1Full(t *testing.T) {
	for _, n := range []uint64{0, 1, 2, wide - 1, wide} {
		p := made(t)
		for f := range uint64(deep) {
			p.wantPush(n, api.OK)
			p.plain = append(p.plain, make(row, n))
			fill(p, n, f*100+1)
			p.wantPlain()
		}
		for more := range uint64(wide + 1) {
			p.wantPush(more, api.ErrFull)
			p.wantPlain()
		}
		for _, wrong := range huge {
			p.wantPush(wrong, api.ErrArg)
			p.wantPlain()
		}
		p.pop()
		p.wantPush(wide+1, api.ErrArg)
		p.push(n)
		p.wantPlain()
		p.wantPush(n, api.ErrFull)
		p.popAll()
		if t.Failed() {
			t.Fatalf("of %d", n)
		}
	}
}

// TestP17_1FullAgain: a stack that was full and went to nothing takes as many frames again, more than once: pops give all room back.
func TestP17_1FullAgain(t *testing.T) {
	p := made(t)
	for range 3 {
		for _, words := range full() {
			p.push(wide)
			fill(p, wide, words[0])
		}
		p.wantRows(full()...)
		p.push(0)
		p.popAll()
	}
}

// TestP17_1Many: a thousand pushes and pops at one depth take no room from those above.
func TestP17_1Many(t *testing.T) {
	p := filled(t, row{1, 2, 3})
	for k := range uint64(1000) {
		p.push(k % (wide + 1))
		fill(p, k%(wide+1), k)
		p.pop()
		p.wantRows(row{1, 2, 3})
	}
	for range deep - 1 {
		p.push(wide)
	}
	p.push(0)
	p.wantPlain()
}

// TestP17_1EmptyFrames: frames of no slots are frames: at the bottom, on top and between others.
func TestP17_1EmptyFrames(t *testing.T) {
	for _, rows := range [][]row{{{}}, {{}, {}}, {{}, {1}}, {{1}, {}}, {{1, 2}, {}, {3}}, {{}, {4, 5}, {}, {}, {6}, {}}} {
		p := filled(t, rows...)
		p.wantRows(rows...)
		p.push(0)
		p.wantRows(append(slices.Clone(rows), row{})...)
		for _, i := range append(row{0, 1, wide}, huge...) {
			p.wantGet(i, 0, api.ErrRange)
			p.wantSet(i, 9, 0, api.ErrRange)
		}
		p.wantPlain()
		p.wantPop(api.OK)
		p.plain = p.plain[:len(rows)]
		p.wantRows(rows...)
		p.popAll()
	}
}

// TestP17_1Ends: the first slot of the top frame and the last one, at every number of slots from two on: no slot beside them has changed, of no frame.
func TestP17_1Ends(t *testing.T) {
	for n := uint64(2); n <= wide; n++ {
		p := filled(t, row{71, 72}, make(row, n))
		fill(p, n, 1000)
		p.wantSet(0, 7, 1000, api.OK)
		p.plain[1][0] = 7
		p.wantPlain()
		p.wantSet(n-1, 8, 1000+n-1, api.OK)
		p.plain[1][n-1] = 8
		p.wantPlain()
		p.wantSet(n, 9, 0, api.ErrRange)
		p.wantPlain()
		p.popAll()
		if t.Failed() {
			t.Fatalf("of %d", n)
		}
	}
}

// TestP17_1EachSlot: each slot of the top frame is put each value, and no other one changes, of no frame.
func TestP17_1EachSlot(t *testing.T) {
	p := filled(t, row{1, 2}, row{}, row{math.MaxUint64, 0, 3}, make(row, wide))
	for i := range uint64(wide) {
		for _, v := range values {
			p.set(i, v)
			p.wantPlain()
		}
		p.set(i, i*i+1)
		p.wantPlain()
	}
	p.popAll()
}

// TestP17_1SameAgain: a slot that is put what it holds already holds it still, and the next Set answers it; 0 too.
func TestP17_1SameAgain(t *testing.T) {
	for _, v := range values {
		p := filled(t, row{5}, row{3, v, 4})
		for range 3 {
			p.wantSet(1, v, v, api.OK)
			p.wantRows(row{5}, row{3, v, 4})
		}
		p.wantSet(1, 0, v, api.OK)
		p.wantSet(1, 0, 0, api.OK)
		p.plain[1][1] = 0
		p.wantRows(row{5}, row{3, 0, 4})
		p.wantPop(api.OK, 3, 0, 4)
	}
}

// TestP17_1NextSet: what Set answers is what the last Set of the same slot of the same frame put there, whatever came between.
func TestP17_1NextSet(t *testing.T) {
	p := made(t)
	p.push(2)
	p.wantSet(1, 5, 0, api.OK)
	p.wantSet(0, 6, 0, api.OK)
	p.wantSet(2, 8, 0, api.ErrRange)
	p.wantPush(2, api.OK)
	p.wantSet(1, 9, 0, api.OK)
	p.wantSet(0, 10, 0, api.OK)
	p.wantSet(1, 11, 9, api.OK)
	p.wantPop(api.OK, 10, 11)
	p.wantSet(1, 12, 5, api.OK)
	p.wantSet(0, 13, 6, api.OK)
	p.wantSet(1, 0, 12, api.OK)
	p.wantPop(api.OK, 13, 0)
}

// TestP17_1Fresh: the slots of a fresh frame are 0, also where a popped one of any number of slots had something in them, or several.
func TestP17_1Fresh(t *testing.T) {
	for was := range uint64(wide + 1) {
		for n := range uint64(wide + 1) {
			p := filled(t, row{41, 42, 43})
			p.push(was)
			fill(p, was, 1<<63)
			p.pop()
			p.push(n)
			p.wantRows(row{41, 42, 43}, make(row, n))
			p.push(was)
			p.wantRows(row{41, 42, 43}, make(row, n), make(row, was))
			p.popAll()
			if t.Failed() {
				t.Fatalf("of %d behind %d", n, was)
			}
		}
	}
}

// TestP17_1FreshAtBottom: the first frame of a stack that was full of words is 0, too, and those above it.
func TestP17_1FreshAtBottom(t *testing.T) {
	p := filled(t, full()...)
	p.popAll()
	for range deep {
		p.push(wide)
	}
	p.wantRows(slices.Repeat([]row{make(row, wide)}, deep)...)
}

// TestP17_1LowerStay: what the lower frames' slots hold, behind pushes, sets and pops above them, wrong ones among these.
func TestP17_1LowerStay(t *testing.T) {
	low := []row{{1, math.MaxUint64}, {}, {0, 3, 0}, {4}}
	p := filled(t, low...)
	for n := range uint64(wide + 1) {
		p.push(n)
		fill(p, n, 500)
		p.set(n, 9)
		p.set(math.MaxUint64, 9)
		p.push(wide + 1)
		p.push(wide)
		fill(p, wide, 600)
		p.pop()
		p.wantRows(append(slices.Clone(low), p.plain[len(low)])...)
		p.pop()
		p.wantRows(low...)
	}
	p.popAll()
}

// TestP17_1NoSlot: Get and Set of numbers that are no slot of the top frame, with values at the ends: ErrRange, with 0, and nothing is changed; slots that a lower frame has are none of the top one.
func TestP17_1NoSlot(t *testing.T) {
	for _, rows := range [][]row{
		{{}}, {{0}}, {{7}}, {{1, 2}}, {{1, 2, 3}, {4}}, {{1, 2, 3}, {}}, {{5, 6}, {7, 8}}, {make(row, wide), make(row, wide-1)}, {{math.MaxUint64}, make(row, wide)}, full(),
	} {
		p := filled(t, rows...)
		n := uint64(len(rows[len(rows)-1]))
		for _, i := range append(row{n, n + 1, n + 2, 2*n + 1, n + 1<<32, n + 1<<63}, huge...) {
			p.wantGet(i, 0, api.ErrRange)
			for _, v := range values {
				p.wantSet(i, v, 0, api.ErrRange)
			}
			p.wantGet(i, 0, api.ErrRange)
			p.wantPlain()
		}
		p.wantRows(rows...)
		p.popAll()
	}
}

// TestP17_1AllInOrder: All tells the lowest frame first, and each frame's slots in the order of their numbers, whichever was put something first.
func TestP17_1AllInOrder(t *testing.T) {
	p := made(t)
	p.push(2)
	p.set(1, 20)
	p.push(3)
	p.set(2, 50)
	p.set(0, 30)
	p.push(0)
	p.push(1)
	p.set(0, 60)
	for range 2 {
		p.pop()
	}
	p.set(1, 40)
	p.push(1)
	p.set(0, 70)
	if got, want := p.stack.All(), (row{0, 20, 30, 40, 50, 70}); !slices.Equal(got, want) {
		t.Errorf("All: got %v, want %v", got, want)
	}
	p.wantRows(row{0, 20}, row{30, 40, 50}, row{70})
	p.pop()
	p.pop()
	p.set(0, 10)
	p.wantRows(row{10, 20})
}
