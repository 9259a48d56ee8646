package ops_test

import (
	"bytes"
	"slices"
	"testing"

	"kraal/api"
	"kraal/ops"
)

// some is a list that may be.
func some() []api.Op { return []api.Op{apart, {Kind: 255, A: 1 << 63}, {}, {Kind: 15, C: 256}} }

// TestR3PutIsNew: who writes into what Put answers, or behind its end, changes neither the list nor another answer.
func TestR3PutIsNew(t *testing.T) {
	for n := range 5 {
		l := some()[:n:n]
		want, _ := plainPut(l)
		first, _ := ops.Put(l)
		second, _ := ops.Put(l)
		for i := range first {
			first[i] = 0xaa
		}
		_ = append(first, 0xbb)
		_ = append(first[:0], 0xcc)
		if !bytes.Equal(second, want) || !slices.Equal(l, some()[:n]) {
			t.Errorf("writing changed another answer to %x, the list to %v", second, l)
		}
		wantPut(t, l...)
	}
}

// TestR3GetIsNew: who writes into what Get answers, or behind its end, changes neither the bytes nor another answer.
func TestR3GetIsNew(t *testing.T) {
	for n := range 5 {
		b := counting(25 * n)
		want, _ := plainGet(b)
		first, _ := ops.Get(b)
		second, _ := ops.Get(b)
		for i := range first {
			first[i] = api.Op{Kind: -7, A: 9, B: 9, C: 9}
		}
		_ = append(first, api.Op{Kind: 77})
		_ = append(first[:0], api.Op{Kind: 78})
		if !slices.Equal(second, want) || !bytes.Equal(b, counting(25*n)) {
			t.Errorf("writing changed another answer to %v, the bytes to %x", second, b)
		}
		wantGet(t, b...)
	}
}

// TestR3PutKeepsNothing: what is written into the list later changes nothing of what was answered, and is what counts from then on.
func TestR3PutKeepsNothing(t *testing.T) {
	l := some()
	want, _ := plainPut(l)
	got, _ := ops.Put(l)
	for i := range l {
		l[i] = api.Op{Kind: 3, A: 5}
	}
	if !bytes.Equal(got, want) {
		t.Errorf("an answer changed later: %x", got)
	}
	wantPut(t, l...)
	l[2].Kind = -1
	wantPut(t, l...)
	l[2].Kind = 255
	wantPut(t, l...)
}

// TestR3GetKeepsNothing: what is written into the bytes later changes nothing of what was answered, and is what counts from then on.
func TestR3GetKeepsNothing(t *testing.T) {
	b := counting(75)
	want, _ := plainGet(b)
	got, _ := ops.Get(b)
	clear(b)
	if !slices.Equal(got, want) {
		t.Errorf("an answer changed later: %v", got)
	}
	wantGet(t, b...)
	wantGet(t, b[:74]...)
	b[50] = 255
	wantGet(t, b...)
}

// TestR3RoomBehind: what is handed in with room behind its end: the room isn't written.
func TestR3RoomBehind(t *testing.T) {
	l := append(some(), some()...)
	b := counting(200)
	for n := range len(l) + 1 {
		wantPut(t, l[:n]...)
		_, _ = ops.Put(l[:n])
		_, _ = ops.Get(b[:25*n])
		if !slices.Equal(l, append(some(), some()...)) || !bytes.Equal(b, counting(200)) {
			t.Fatalf("of %d: what was handed in is %v now, %x", n, l, b)
		}
	}
}

// TestR3RefusedIsNothing: a list and bytes that are refused stay as they are.
func TestR3RefusedIsNothing(t *testing.T) {
	for at := range some() {
		l := some()
		l[at].Kind = 256
		was := slices.Clone(l)
		if b, e := ops.Put(l); e != api.ErrArg || len(b) != 0 || !slices.Equal(l, was) {
			t.Errorf("Put of a wrong one at %d: got %v, %v, the list is %v", at, b, e, l)
		}
	}
	b := counting(60)
	if l, e := ops.Get(b); e != api.ErrShort || len(l) != 0 || !bytes.Equal(b, counting(60)) {
		t.Errorf("Get of 60 bytes: got %v, %v, the bytes are %x", l, e, b)
	}
}

// TestR4NilIsEmpty: of none, nil or not, there is none, and no error.
func TestR4NilIsEmpty(t *testing.T) {
	none, e := ops.Put(nil)
	empty, f := ops.Put([]api.Op{})
	if e != api.OK || f != api.OK || len(none) != 0 || len(empty) != 0 {
		t.Errorf("Put: got %v, %v and %v, %v", none, e, empty, f)
	}
	for _, b := range [][]byte{nil, {}, none, empty} {
		if l, e := ops.Get(b); e != api.OK || len(l) != 0 {
			t.Errorf("Get: got %v, %v", l, e)
		}
	}
}

// TestR5SameAgain: the same call answers the same, whatever was called in between, errors too.
func TestR5SameAgain(t *testing.T) {
	c := chance(7)
	lists := make([][]api.Op, 8)
	for i := range lists {
		lists[i] = c.row(i)
	}
	lists[3][1].Kind = -1
	lists[6][5].Kind = 256
	for range 300 {
		switch c.upTo(3) {
		case 0:
			wantPut(t, lists[c.upTo(len(lists)-1)]...)
		case 1:
			wantGet(t, counting(c.upTo(80))...)
		case 2:
			wantKind(t, inOrder[c.upTo(14)][c.upTo(1):])
		case 3:
			kind := c.upTo(17)
			if got := ops.Name(kind); got != ops.Name(kind) || (got == "") != (kind < 1 || kind > 15) {
				t.Errorf("Name(%d): got %q", kind, got)
			}
		}
	}
}
