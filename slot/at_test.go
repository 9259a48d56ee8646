package slot_test

import (
	"math"
	"slices"
	"testing"

	"kraal/api"
	"kraal/slot"
)

// TestP13_1Example is the chapter's example.
func TestP13_1Example(t *testing.T) {
	o := api.Object{At: 5, Kinds: []int{0, 1}}
	wantAt(t, o, 1, 6, 1)
	wantAt(t, o, 0, 5, 0)
	wantNotAt(t, o, 2)
	wantPointers(t, o, 1)
}

// TestP13_1AtEveryField: objects of one field and of many, at many places, also below 0 and huge ones: each field stands its number behind the object's place.
func TestP13_1AtEveryField(t *testing.T) {
	for _, n := range []int{1, 2, 3, 4, 5, 59, 60, 61, 4000, 5000} {
		for first := range 4 {
			kinds := kindsInTurn(n, first)
			for _, at := range []int{0, 1, 5, 16, 700, 16383, 16384, -1, -2, -60, -4000, 1 << 40, -1 << 40, math.MinInt, math.MaxInt - 5000} {
				o := thing(at, kinds, nil)
				for i, kind := range kinds {
					wantAt(t, o, uint64(i), at+i, kind)
				}
				for _, i := range []uint64{uint64(n), uint64(n) + 1, uint64(n) + 4000, uint64(n) + 1<<32, 1<<64 - 1, -uint64(n)} {
					wantNotAt(t, o, i)
				}
			}
		}
	}
}

// TestP13_1AtWrongNumbers: numbers that no object has, also of one without Kinds; Values don't count.
func TestP13_1AtWrongNumbers(t *testing.T) {
	for _, n := range []int{0, 1, 2, 3, 4, 60} {
		for _, at := range slices.Concat([]int{0, 1, 5}, huge) {
			for _, values := range [][]uint64{nil, {1}, valuesFrom(1, 300)} {
				o := thing(at, kindsInTurn(n, 1), values)
				for _, i := range wrongNumbers {
					wantNotAt(t, o, i)
				}
				for i := range uint64(5) {
					wantNotAt(t, o, uint64(n)+i)
				}
			}
		}
	}
}

// TestP13_1AtBehindTheGreatest: where a place would be greater than any int, it wraps round, as ints do.
func TestP13_1AtBehindTheGreatest(t *testing.T) {
	o := thing(math.MaxInt-1, []int{0, 1, 2, 3}, []uint64{1, 2, 3, 4})
	wantAt(t, o, 0, math.MaxInt-1, 0)
	wantAt(t, o, 1, math.MaxInt, 1)
	wantAt(t, o, 2, math.MinInt, 2)
	wantAt(t, o, 3, math.MinInt+1, 3)
	wantNotAt(t, o, 4)
	o.At = math.MinInt
	wantAt(t, o, 0, math.MinInt, 0)
	wantAt(t, o, 3, math.MinInt+3, 3)
}

// TestP13_1AtWrongKinds: what stands in Kinds is told, whether it is a kind or not.
func TestP13_1AtWrongKinds(t *testing.T) {
	o := thing(5, wrongKinds, nil)
	for i, kind := range wrongKinds {
		wantAt(t, o, uint64(i), 5+i, kind)
	}
	wantNotAt(t, o, uint64(len(wrongKinds)))
}

// TestP13_1PointersEveryRow: every row of up to six kinds, wrong ones among them.
func TestP13_1PointersEveryRow(t *testing.T) {
	choice := []int{0, 1, 2, 3, -1, 4}
	for n := range 7 {
		rows := 1
		for range n {
			rows *= len(choice)
		}
		for row := range rows {
			var kinds []int
			for rest := row; len(kinds) < n; rest /= len(choice) {
				kinds = append(kinds, choice[rest%len(choice)])
			}
			o := thing(5, kinds, nil)
			wantPointers(t, o, plainPointers(o)...)
		}
	}
}

// TestP13_1PointersKinds: which kinds are of pointers, told one by one; what isn't a kind is left out.
func TestP13_1PointersKinds(t *testing.T) {
	wantPointers(t, thing(4, []int{0, 1, 3, 2, 0}, nil), 1, 2, 3)
	wantPointers(t, thing(4, []int{0}, nil))
	wantPointers(t, thing(4, []int{api.Counted}, nil), 0)
	wantPointers(t, thing(4, []int{api.Same}, nil), 0)
	wantPointers(t, thing(4, []int{api.Up}, nil), 0)
	wantPointers(t, thing(4, []int{0, 0, 0, 0}, []uint64{1, 2, 3, 4}))
	wantPointers(t, thing(4, nil, []uint64{1, 2, 3, 4}))
	wantPointers(t, api.Object{})
	wantPointers(t, thing(4, wrongKinds, nil))
	for _, kind := range wrongKinds {
		wantPointers(t, thing(4, []int{kind}, nil))
		wantPointers(t, thing(4, []int{3, kind, kind, 1, 0, 2, kind}, nil), 0, 3, 5)
	}
}

// TestP13_1PointersHangOnKinds: on nothing else that an object has: not on its place, region, head or values.
func TestP13_1PointersHangOnKinds(t *testing.T) {
	for _, n := range []int{0, 1, 2, 60, 61, 4000, 5000} {
		for first := range 4 {
			kinds := kindsInTurn(n, first)
			want := plainPointers(api.Object{Kinds: kinds})
			for _, at := range slices.Concat([]int{0, 5}, huge) {
				for _, values := range [][]uint64{nil, make([]uint64, n), valuesFrom(1, n+3)} {
					wantPointers(t, thing(at, kinds, values), want...)
				}
			}
			for _, h := range []api.Head{{}, {Array: true}, {Type: 1, N: 2}, {Array: true, Kind: 3, N: 4000}, {Array: true, Kind: 0, N: n}} {
				wantPointers(t, api.Object{Region: -1, Head: h, Kinds: kinds}, want...)
			}
		}
	}
	if got := slot.Pointers(api.Object{Kinds: kindsInTurn(5000, 1)}); len(got) != 3750 || got[0] != 0 || got[3749] != 4998 {
		t.Errorf("of 5000 kinds in turn: got %d of them, %v", len(got), got[:3])
	}
}
