package ops_test

import (
	"bytes"
	"math"
	"slices"
	"testing"

	"kraal/api"
	"kraal/ops"
)

// apart is an operation whose bytes are 1, 2, 3 up to 25.
var apart = api.Op{Kind: 1, A: 0x0908070605040302, B: 0x11100f0e0d0c0b0a, C: 0x1918171615141312}

func wantBytes(t *testing.T, l []api.Op, want ...byte) {
	t.Helper()
	if got, e := ops.Put(l); e != api.OK || !bytes.Equal(got, want) {
		t.Errorf("Put(%v): got %v, %v, want %v", l, got, e, want)
	}
}

func TestP21_1PutExample(t *testing.T) {
	want := make([]byte, 25)
	want[0] = 15
	wantBytes(t, []api.Op{{Kind: api.OpFree}}, want...)
}

// TestP21_1PutPlaces: each byte of A, B and C stands where the chapter says, the lowest first.
func TestP21_1PutPlaces(t *testing.T) {
	wantBytes(t, []api.Op{apart}, 1, 2, 3, 4, 5, 6, 7, 8, 9, 10, 11, 12, 13, 14, 15, 16, 17, 18, 19, 20, 21, 22, 23, 24, 25)
	wantBytes(t, []api.Op{{Kind: 6, A: 0x0102, B: 1 << 63, C: 5}},
		6, 2, 1, 0, 0, 0, 0, 0, 0, 0, 0, 0, 0, 0, 0, 0, 0x80, 5, 0, 0, 0, 0, 0, 0, 0)
	for bit := range 64 {
		for place := range 3 {
			var v [3]uint64
			v[place] = 1 << bit
			want := make([]byte, 25)
			want[0] = 7
			want[1+8*place+bit/8] = 1 << (bit % 8)
			wantBytes(t, []api.Op{{Kind: 7, A: v[0], B: v[1], C: v[2]}}, want...)
		}
	}
}

// TestP21_1PutMany: operations' bytes stand one behind the other, in their order.
func TestP21_1PutMany(t *testing.T) {
	wantBytes(t, []api.Op{apart, {Kind: 2}, apart}, slices.Concat(counting(25), []byte{2}, make([]byte, 24), counting(25))...)
	c := chance(1)
	for n := range 70 {
		wantPut(t, c.row(n)...)
	}
	for _, n := range []int{255, 256, 257, 2621, 2622, 5000} {
		wantPut(t, c.row(n)...)
	}
}

func TestP21_1PutNone(t *testing.T) {
	for _, l := range [][]api.Op{nil, {}, make([]api.Op, 0, 9)} {
		if got, e := ops.Put(l); e != api.OK || len(got) != 0 {
			t.Errorf("Put of none: got %v, %v", got, e)
		}
	}
}

// TestP21_1PutEveryKind: kinds without a name have bytes all the same, 0 and 255 too.
func TestP21_1PutEveryKind(t *testing.T) {
	for kind := range 256 {
		want := append([]byte{byte(kind)}, make([]byte, 24)...)
		wantBytes(t, []api.Op{{Kind: kind}}, want...)
		wantBytes(t, []api.Op{{Kind: kind}, {Kind: kind}}, append(want, want...)...)
		o := apart
		o.Kind = kind
		wantPut(t, o)
		wantPut(t, apart, o, apart)
	}
}

func TestP21_1PutEdges(t *testing.T) {
	for _, kind := range []int{0, 1, 15, 16, 255} {
		for _, a := range edges {
			for _, b := range edges {
				for _, c := range edges {
					wantPut(t, api.Op{Kind: kind, A: a, B: b, C: c})
				}
			}
		}
	}
	all := slices.Repeat([]byte{255}, 25)
	wantBytes(t, []api.Op{{Kind: 255, A: math.MaxUint64, B: math.MaxUint64, C: math.MaxUint64}}, all...)
}

// TestP21_1PutWrong: of one that may not be, wherever it stands, there are no bytes at all.
func TestP21_1PutWrong(t *testing.T) {
	refused := func(l ...api.Op) {
		t.Helper()
		if got, e := ops.Put(l); e != api.ErrArg || len(got) != 0 {
			t.Errorf("Put(%v): got %v, %v, want ErrArg", l, got, e)
		}
	}
	for _, kind := range wrong {
		o := apart
		o.Kind = kind
		refused(api.Op{Kind: kind})
		refused(o)
		for n := range 6 {
			for at := range n + 1 {
				refused(slices.Insert(slices.Repeat([]api.Op{apart}, n), at, o)...)
			}
		}
		for _, other := range wrong {
			refused(o, api.Op{Kind: other})
			refused(o, apart, api.Op{Kind: other})
		}
		refused(slices.Repeat([]api.Op{o}, 40)...)
		refused(append(slices.Repeat([]api.Op{apart}, 3000), o)...)
	}
}

// TestP21_1PutAnyRow holds mixed lists, some with one that may not be, against the plain bytes.
func TestP21_1PutAnyRow(t *testing.T) {
	c := chance(2)
	for range 4000 {
		l := c.row(c.upTo(12))
		if len(l) > 0 && c.upTo(3) == 0 {
			l[c.upTo(len(l)-1)].Kind = wrong[c.upTo(len(wrong)-1)]
		}
		wantPut(t, l...)
	}
}
