package tally_test

import (
	"math"
	"testing"

	"kraal/api"
)

// TestP15_1EveryRow: every row of four calls at two regions and 0, with small counts and with those at the greatest one, held against the plain tally behind each call.
func TestP15_1EveryRow(t *testing.T) {
	const long = 4
	calls := []call{
		{'a', 1, 1}, {'a', 1, -1}, {'a', 1, greatest - 1}, {'a', 1, -greatest},
		{'a', 2, 1}, {'a', 2, -1}, {'a', 2, greatest},
		{'s', 0, 1}, {'s', 1, 0}, {'s', 0, 2}, {'s', 1, 2}, {'s', 2, 1}, {'s', 1, 1}, {'s', 2, 2},
		{'f', 1, 0}, {'f', 2, 0},
	}
	rows := 1
	for range long {
		rows *= len(calls)
	}
	for row := range rows {
		y := told(t)
		rest := row
		var done []call
		for range long {
			c := calls[rest%len(calls)]
			rest /= len(calls)
			y.do(c)
			done = append(done, c)
			y.wantPlain(1, 2)
		}
		if t.Failed() {
			t.Fatalf("behind %v", done)
		}
	}
}

// TestP15_1EverySwap: each pair of counts at the ends, with each Swap of the two, of 0 and of one that has no count.
func TestP15_1EverySwap(t *testing.T) {
	ends := []int{0, 1, 2, greatest - 1, greatest}
	for _, first := range ends {
		for _, second := range ends {
			for old := -1; old <= 3; old++ {
				for young := -1; young <= 3; young++ {
					y := told(t, api.Run{From: 1, N: first}, api.Run{From: 2, N: second})
					y.do(call{'s', old, young})
					y.wantPlain(1, 2, 3)
					if t.Failed() {
						t.Fatalf("of %d and %d: Swap(%d, %d)", first, second, old, young)
					}
				}
			}
		}
	}
}

// TestP15_1EveryAdd: each count at the ends, with each number that is near to one.
func TestP15_1EveryAdd(t *testing.T) {
	ends := []int{0, 1, 2, 3, greatest - 2, greatest - 1, greatest}
	steps := []int{
		0, 1, -1, 2, -2, 3, -3, 4, -4, greatest - 2, greatest - 1, greatest, greatest + 1, 2 - greatest, 1 - greatest, -greatest, -greatest - 1,
		math.MinInt, math.MinInt + 1, math.MaxInt - 1, math.MaxInt,
	}
	for _, has := range ends {
		for _, n := range steps {
			y := told(t, api.Run{From: 1, N: has}, api.Run{From: 2, N: 1})
			y.do(call{'a', 1, n})
			y.wantPlain(1, 2)
			if t.Failed() {
				t.Fatalf("of %d: Add of %d", has, n)
			}
		}
	}
}

// TestP15_1MixedRows: long mixed rows of calls, wrong ones among them, held against the plain tally behind each one.
func TestP15_1MixedRows(t *testing.T) {
	for seed := range 12 {
		m := mixed(seed)
		y := told(t)
		of := []int{2, 5, 20, 100}[seed%4]
		var numbers []int
		for region := range of + 1 {
			numbers = append(numbers, region)
		}
		regions := append(append([]int{}, numbers...), -1, math.MinInt, 1<<32+1, math.MaxInt)
		for step := range 1500 {
			c := y.anyCall(&m, numbers)
			if m.next(10) == 0 {
				c = y.anyCall(&m, regions)
			}
			y.do(c)
			y.wantPlain(regions...)
			if t.Failed() {
				t.Fatalf("row %d, step %d: %v", seed, step, c)
			}
		}
	}
}

// anyCall is any call, of these regions: most of its steps are small ones, or lead just to an end, or just beyond.
func (y *pair) anyCall(m *mixed, regions []int) call {
	a, b := regions[m.next(len(regions))], regions[m.next(len(regions))]
	has := y.plain.of(a)
	switch k := m.next(20); {
	case k < 5:
		return call{'a', a, m.next(7) - 2}
	case k < 8:
		steps := []int{-has, -has - 1, greatest - has, greatest - has - 1, greatest - has + 1, 0, math.MinInt, math.MaxInt}
		return call{'a', a, steps[m.next(len(steps))]}
	case k < 17:
		return call{'s', a, b}
	case k < 18:
		return call{'s', a, a}
	}
	return call{'f', a, 0}
}

// TestP15_1SwapsAreAdds: what Swap does is an Add of one less, and one of one more.
func TestP15_1SwapsAreAdds(t *testing.T) {
	m := mixed(5)
	y, z := told(t), told(t)
	for region := 1; region <= 8; region++ {
		y.wantAdd(region, region%4, api.OK)
		z.wantAdd(region, region%4, api.OK)
	}
	for range 2000 {
		old, young := m.next(9), m.next(9)
		e := y.tally.Swap(old, young)
		if refused := old != 0 && z.tally.Of(old) == 0; (e != api.OK) != refused {
			t.Fatalf("Swap(%d, %d): got %v", old, young, e)
		}
		if e != api.OK {
			continue
		}
		if old != 0 && z.tally.Add(old, -1) != api.OK || young != 0 && z.tally.Add(young, 1) != api.OK {
			t.Fatalf("Swap(%d, %d): Add was refused", old, young)
		}
		for region := range 9 {
			z.wantOf(region, y.tally.Of(region))
		}
		if t.Failed() {
			t.Fatalf("behind Swap(%d, %d)", old, young)
		}
	}
}
