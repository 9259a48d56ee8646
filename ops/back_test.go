package ops_test

import (
	"bytes"
	"slices"
	"testing"

	"kraal/api"
	"kraal/ops"
)

// thereAndBack: Get of what Put answers is the list.
func thereAndBack(t *testing.T, l ...api.Op) {
	t.Helper()
	b, e := ops.Put(l)
	if e != api.OK || len(b) != 25*len(l) {
		t.Errorf("Put(%v): got %d bytes, %v", l, len(b), e)
	}
	if got, e := ops.Get(b); e != api.OK || !slices.Equal(got, l) {
		t.Errorf("Get(Put(%v)): got %v, %v", l, got, e)
	}
}

// backAndThere: Put of what Get answers are the bytes, so that no others have that list.
func backAndThere(t *testing.T, b ...byte) {
	t.Helper()
	l, e := ops.Get(b)
	if e != api.OK || 25*len(l) != len(b) {
		t.Errorf("Get(%x): got %v, %v", b, l, e)
	}
	if got, e := ops.Put(l); e != api.OK || !bytes.Equal(got, b) {
		t.Errorf("Put(Get(%x)): got %x, %v", b, got, e)
	}
}

func TestP21_2ThereAndBack(t *testing.T) {
	thereAndBack(t)
	thereAndBack(t, api.Op{})
	thereAndBack(t, apart)
	thereAndBack(t, apart, apart)
	for kind := range 256 {
		thereAndBack(t, api.Op{Kind: kind})
		thereAndBack(t, api.Op{Kind: kind, A: 3, B: 2, C: 1}, apart)
	}
	for _, a := range edges {
		for _, b := range edges {
			for _, c := range edges {
				thereAndBack(t, api.Op{Kind: 255, A: a, B: b, C: c})
			}
		}
	}
	c := chance(4)
	for range 3000 {
		thereAndBack(t, c.row(c.upTo(20))...)
	}
	thereAndBack(t, c.row(10000)...)
}

func TestP21_2BackAndThere(t *testing.T) {
	backAndThere(t)
	backAndThere(t, make([]byte, 25)...)
	backAndThere(t, counting(250)...)
	backAndThere(t, slices.Repeat([]byte{255}, 75)...)
	for at := range 50 {
		for value := range 256 {
			b := make([]byte, 50)
			b[at] = byte(value)
			backAndThere(t, b...)
		}
	}
	c := chance(5)
	for range 3000 {
		backAndThere(t, c.bytes(25*c.upTo(20))...)
	}
	backAndThere(t, c.bytes(250000)...)
}

// few are the lists of up to two operations of few kinds and numbers.
func few() [][]api.Op {
	var all []api.Op
	numbers := []uint64{0, 1, 255, 256, 1 << 63}
	for _, kind := range []int{0, 1, 255} {
		for _, a := range numbers {
			for _, b := range numbers {
				all = append(all, api.Op{Kind: kind, A: a, B: b}, api.Op{Kind: kind, A: a, C: b})
			}
		}
	}
	lists := [][]api.Op{nil}
	for _, first := range all {
		lists = append(lists, []api.Op{first})
		for _, second := range all {
			lists = append(lists, []api.Op{first, second})
		}
	}
	return lists
}

// TestP21_2OneWay: no two lists have the same bytes.
func TestP21_2OneWay(t *testing.T) {
	whose := map[string][]api.Op{}
	for _, l := range few() {
		b, e := ops.Put(l)
		other, met := whose[string(b)]
		if e != api.OK || met && !slices.Equal(other, l) {
			t.Errorf("%v and %v have the same bytes, %x, %v", other, l, b, e)
		}
		whose[string(b)] = l
		thereAndBack(t, l...)
	}
}

// TestP21_2OneBehindTheOther: two lists' bytes, one behind the other, are those of both lists as one.
func TestP21_2OneBehindTheOther(t *testing.T) {
	c := chance(6)
	for range 1000 {
		l, m := c.row(c.upTo(6)), c.row(c.upTo(6))
		first, _ := ops.Put(l)
		second, _ := ops.Put(m)
		both, e := ops.Put(slices.Concat(l, m))
		if e != api.OK || !bytes.Equal(both, slices.Concat(first, second)) {
			t.Errorf("of %v and %v: got %x, %v", l, m, both, e)
		}
		if got, e := ops.Get(slices.Concat(second, first)); e != api.OK || !slices.Equal(got, slices.Concat(m, l)) {
			t.Errorf("of %v and %v: got %v, %v", m, l, got, e)
		}
	}
}
