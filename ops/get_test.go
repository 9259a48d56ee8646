package ops_test

import (
	"math"
	"slices"
	"testing"

	"kraal/api"
	"kraal/ops"
)

func wantOps(t *testing.T, b []byte, want ...api.Op) {
	t.Helper()
	if got, e := ops.Get(b); e != api.OK || !slices.Equal(got, want) {
		t.Errorf("Get(%v): got %v, %v, want %v", b, got, e, want)
	}
}

func TestP21_1GetExample(t *testing.T) {
	b := make([]byte, 25)
	b[0] = 15
	wantOps(t, b, api.Op{Kind: api.OpFree})
}

// TestP21_1GetPlaces: each byte counts where it stands.
func TestP21_1GetPlaces(t *testing.T) {
	wantOps(t, counting(25), apart)
	wantOps(t, slices.Repeat([]byte{255}, 25), api.Op{Kind: 255, A: math.MaxUint64, B: math.MaxUint64, C: math.MaxUint64})
	for bit := range 64 {
		for place := range 3 {
			b := make([]byte, 25)
			b[1+8*place+bit/8] = 1 << (bit % 8)
			var v [3]uint64
			v[place] = 1 << bit
			wantOps(t, b, api.Op{A: v[0], B: v[1], C: v[2]})
		}
	}
	for at := range 50 {
		for value := range 256 {
			b := counting(50)
			b[at] = byte(value)
			wantGet(t, b...)
		}
	}
}

// TestP21_1GetEveryKind: kinds without a name are operations all the same, 0 and 255 too.
func TestP21_1GetEveryKind(t *testing.T) {
	for kind := range 256 {
		b := counting(25)
		b[0] = byte(kind)
		o := apart
		o.Kind = kind
		wantOps(t, b, o)
		wantOps(t, append(counting(25), b...), apart, o)
		wantOps(t, append(b, counting(25)...), o, apart)
	}
}

func TestP21_1GetNone(t *testing.T) {
	for _, b := range [][]byte{nil, {}, make([]byte, 0, 50)} {
		if got, e := ops.Get(b); e != api.OK || len(got) != 0 {
			t.Errorf("Get of none: got %v, %v", got, e)
		}
	}
}

// TestP21_1GetEveryLength: bytes whose number isn't a multiple of 25 are no operations at all.
func TestP21_1GetEveryLength(t *testing.T) {
	check := func(n int) {
		t.Helper()
		for _, b := range [][]byte{counting(n), make([]byte, n), slices.Repeat([]byte{255}, n)} {
			got, e := ops.Get(b)
			if n%25 != 0 && (e != api.ErrShort || len(got) != 0) {
				t.Errorf("Get of %d bytes: got %v, %v, want ErrShort", n, got, e)
			}
			if n%25 == 0 && (e != api.OK || len(got) != n/25) {
				t.Errorf("Get of %d bytes: got %d operations, %v", n, len(got), e)
			}
		}
	}
	for n := range 700 {
		check(n)
		wantGet(t, counting(n)...)
	}
	for _, n := range []int{6399, 6400, 6401, 65535, 65536, 65537, 65550, 99999, 100000, 100001} {
		check(n)
	}
}

// TestP21_1GetCutShort: what stands in memory behind the bytes is none of theirs.
func TestP21_1GetCutShort(t *testing.T) {
	b := counting(100)
	for from := range 101 {
		for to := from; to <= 100; to++ {
			wantGet(t, b[from:to]...)
		}
	}
}

// TestP21_1GetAnyBytes holds mixed bytes, of right lengths and of wrong ones, against the plain operations.
func TestP21_1GetAnyBytes(t *testing.T) {
	c := chance(3)
	for range 4000 {
		wantGet(t, c.bytes(25*c.upTo(12))...)
		wantGet(t, c.bytes(c.upTo(150))...)
	}
}
