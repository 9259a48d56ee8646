package words_test

import (
	"math"
	"slices"
	"testing"

	"kraal/api"
	"kraal/words"
)

// numbered is a memory whose words are 1, 2, 3 and so on.
func numbered(t *testing.T, n int) *words.Mem {
	t.Helper()
	m, e := words.New(n)
	if e != api.OK || m == nil {
		t.Fatalf("New(%d): %v", n, e)
	}
	for at := range n {
		if e := m.Write(at, uint64(at+1)); e != api.OK {
			t.Fatalf("Write(%d): %v", at, e)
		}
	}
	return m
}

func wantAll(t *testing.T, m *words.Mem, want ...uint64) {
	t.Helper()
	if got := m.All(); !slices.Equal(got, want) {
		t.Errorf("All: got %v, want %v", got, want)
	}
	if m.Len() != len(want) {
		t.Errorf("Len: got %d, want %d", m.Len(), len(want))
	}
}

func wantErr(t *testing.T, what string, got, want api.Errno) {
	t.Helper()
	if got != want {
		t.Errorf("%s: got %v, want %v", what, got, want)
	}
}

func TestP1_1Sizes(t *testing.T) {
	for _, n := range []int{0, 1, 4, api.PageWords, api.MaxWords - 1, api.MaxWords} {
		m, e := words.New(n)
		if e != api.OK || m == nil {
			t.Fatalf("New(%d): %v", n, e)
		}
		wantAll(t, m, make([]uint64, n)...)
	}
	for _, n := range []int{-1, -2, math.MinInt, api.MaxWords + 1, 1 << 40, math.MaxInt} {
		if m, e := words.New(n); m != nil || e != api.ErrArg {
			t.Errorf("New(%d): got %v, %v", n, m, e)
		}
	}
}

func TestP1_1ReadWrite(t *testing.T) {
	m, _ := words.New(4)
	wantErr(t, "Write(1)", m.Write(1, 7), api.OK)
	wantErr(t, "Write(3)", m.Write(3, math.MaxUint64), api.OK)
	wantAll(t, m, 0, 7, 0, math.MaxUint64)
	for at, want := range []uint64{0, 7, 0, math.MaxUint64} {
		if v, e := m.Read(at); v != want || e != api.OK {
			t.Errorf("Read(%d): got %d, %v", at, v, e)
		}
	}
	for _, at := range []int{4, 5, -1, 1 << 32, math.MinInt, math.MaxInt} {
		if v, e := m.Read(at); v != 0 || e != api.ErrRange {
			t.Errorf("Read(%d): got %d, %v", at, v, e)
		}
		wantErr(t, "Write", m.Write(at, 9), api.ErrRange)
	}
	wantAll(t, m, 0, 7, 0, math.MaxUint64)
}

func TestP1_1Fill(t *testing.T) {
	m := numbered(t, 5)
	wantErr(t, "within", m.Fill(api.Run{From: 1, N: 2}, 9), api.OK)
	wantAll(t, m, 1, 9, 9, 4, 5)
	wantErr(t, "the last word", m.Fill(api.Run{From: 4, N: 1}, 8), api.OK)
	wantAll(t, m, 1, 9, 9, 4, 8)
	for from := range 6 {
		wantErr(t, "no words", m.Fill(api.Run{From: from, N: 0}, 7), api.OK)
	}
	wantAll(t, m, 1, 9, 9, 4, 8)
	wantErr(t, "all words", m.Fill(api.Run{From: 0, N: 5}, math.MaxUint64), api.OK)
	wantAll(t, m, math.MaxUint64, math.MaxUint64, math.MaxUint64, math.MaxUint64, math.MaxUint64)
}

func TestP1_1Move(t *testing.T) {
	cases := []struct {
		name string
		r    api.Run
		to   int
		want []uint64
	}{
		{"forwards, overlapping", api.Run{From: 0, N: 4}, 1, []uint64{1, 1, 2, 3, 4, 6, 7, 8}},
		{"backwards, overlapping", api.Run{From: 2, N: 4}, 1, []uint64{1, 3, 4, 5, 6, 6, 7, 8}},
		{"forwards, apart", api.Run{From: 1, N: 2}, 5, []uint64{1, 2, 3, 4, 5, 2, 3, 8}},
		{"backwards, apart", api.Run{From: 5, N: 3}, 1, []uint64{1, 6, 7, 8, 5, 6, 7, 8}},
		{"forwards, side by side", api.Run{From: 0, N: 4}, 4, []uint64{1, 2, 3, 4, 1, 2, 3, 4}},
		{"backwards, side by side", api.Run{From: 4, N: 4}, 0, []uint64{5, 6, 7, 8, 5, 6, 7, 8}},
		{"to where they are", api.Run{From: 2, N: 3}, 2, []uint64{1, 2, 3, 4, 5, 6, 7, 8}},
		{"all of them", api.Run{From: 0, N: 8}, 0, []uint64{1, 2, 3, 4, 5, 6, 7, 8}},
		{"the last word to the front", api.Run{From: 7, N: 1}, 0, []uint64{8, 2, 3, 4, 5, 6, 7, 8}},
		{"none, from the end", api.Run{From: 8, N: 0}, 0, []uint64{1, 2, 3, 4, 5, 6, 7, 8}},
		{"none, to the end", api.Run{From: 0, N: 0}, 8, []uint64{1, 2, 3, 4, 5, 6, 7, 8}},
	}
	for _, c := range cases {
		t.Run(c.name, func(t *testing.T) {
			m := numbered(t, 8)
			wantErr(t, "Move", m.Move(c.r, c.to), api.OK)
			wantAll(t, m, c.want...)
		})
	}
}

func TestP1_1WrongRuns(t *testing.T) {
	m := numbered(t, 6)
	for _, r := range []api.Run{
		{From: -1, N: 0}, {From: -1, N: 1}, {From: -1, N: 2}, {From: 0, N: -1}, {From: 6, N: -1}, {From: -1, N: -1},
		{From: 6, N: 1}, {From: 7, N: 0}, {From: 7, N: -1}, {From: 0, N: 7}, {From: 5, N: 2},
		{From: 1 << 62, N: 1 << 62}, {From: 5, N: math.MaxInt}, {From: math.MaxInt, N: 1}, {From: math.MaxInt, N: math.MaxInt},
		{From: math.MaxInt, N: 0}, {From: math.MinInt, N: 0}, {From: math.MinInt, N: math.MinInt}, {From: 0, N: math.MinInt},
		{From: math.MinInt, N: math.MaxInt}, {From: 1 << 32, N: 0}, {From: 0, N: 1 << 32},
	} {
		wantErr(t, "Fill", m.Fill(r, 9), api.ErrRange)
		for _, to := range []int{0, 3, 6, -1, math.MaxInt, math.MinInt} {
			wantErr(t, "Move", m.Move(r, to), api.ErrRange)
		}
	}
	wantAll(t, m, 1, 2, 3, 4, 5, 6)
}

func TestP1_1WrongTargets(t *testing.T) {
	m := numbered(t, 6)
	for _, c := range []struct {
		r  api.Run
		to int
	}{
		{api.Run{From: 0, N: 2}, 5}, {api.Run{From: 0, N: 2}, -1}, {api.Run{From: 0, N: 2}, 6}, {api.Run{From: 0, N: 6}, 1},
		{api.Run{From: 0, N: 0}, 7}, {api.Run{From: 0, N: 0}, -1}, {api.Run{From: 6, N: 0}, 7},
		{api.Run{From: 0, N: 1}, math.MaxInt}, {api.Run{From: 0, N: 6}, math.MaxInt - 5}, {api.Run{From: 0, N: 1}, math.MinInt},
		{api.Run{From: 0, N: 0}, math.MaxInt}, {api.Run{From: 0, N: 0}, math.MinInt}, {api.Run{From: 0, N: 1}, 1 << 32},
	} {
		wantErr(t, "Move", m.Move(c.r, c.to), api.ErrRange)
	}
	wantAll(t, m, 1, 2, 3, 4, 5, 6)
}

func TestP1_1NoWords(t *testing.T) {
	m, _ := words.New(0)
	if _, e := m.Read(0); e != api.ErrRange {
		t.Error("Read(0)", e)
	}
	wantErr(t, "Write(0)", m.Write(0, 1), api.ErrRange)
	wantErr(t, "Fill of none", m.Fill(api.Run{}, 1), api.OK)
	wantErr(t, "Fill of one", m.Fill(api.Run{N: 1}, 1), api.ErrRange)
	wantErr(t, "Move of none", m.Move(api.Run{}, 0), api.OK)
	wantErr(t, "Move of one", m.Move(api.Run{N: 1}, 0), api.ErrRange)
	wantErr(t, "Move of none to 1", m.Move(api.Run{}, 1), api.ErrRange)
	wantAll(t, m)
}

func TestP1_1MostWords(t *testing.T) {
	const last = api.MaxWords - 1
	m := numbered(t, api.MaxWords)
	if v, e := m.Read(last); v != api.MaxWords || e != api.OK {
		t.Error("the last word", v, e)
	}
	wantErr(t, "one too far", m.Write(api.MaxWords, 1), api.ErrRange)
	wantErr(t, "forwards", m.Move(api.Run{From: 0, N: last}, 1), api.OK)
	want := make([]uint64, api.MaxWords)
	want[0] = 1
	for at := range last {
		want[at+1] = uint64(at + 1)
	}
	wantAll(t, m, want...)
	wantErr(t, "backwards", m.Move(api.Run{From: 1, N: last}, 0), api.OK)
	copy(want, want[1:])
	wantAll(t, m, want...)
	wantErr(t, "one too many", m.Fill(api.Run{From: 1, N: api.MaxWords}, 5), api.ErrRange)
	wantErr(t, "none at the end", m.Fill(api.Run{From: api.MaxWords}, 5), api.OK)
	wantAll(t, m, want...)
	wantErr(t, "all", m.Fill(api.Run{N: api.MaxWords}, 5), api.OK)
	for at := range want {
		want[at] = 5
	}
	wantAll(t, m, want...)
}

func TestP1_1AllIsNewMemory(t *testing.T) {
	m := numbered(t, 3)
	first, second := m.All(), m.All()
	first[0] = 99
	_ = append(first[:1], 98)
	wantAll(t, m, 1, 2, 3)
	if !slices.Equal(second, []uint64{1, 2, 3}) {
		t.Error("two answers share memory", second)
	}
	wantErr(t, "Write", m.Write(1, 50), api.OK)
	if second[1] != 2 {
		t.Error("an answer changed later", second)
	}
}

func TestP1_1MemoriesAreApart(t *testing.T) {
	a, b := numbered(t, 3), numbered(t, 3)
	wantErr(t, "Fill", a.Fill(api.Run{N: 3}, 9), api.OK)
	wantAll(t, a, 9, 9, 9)
	wantAll(t, b, 1, 2, 3)
}

// plain is what a memory should be, told in the simplest way: sets of words by their numbers, and copies.
type plain []uint64

func (p plain) stands(from, n int) bool {
	return from >= 0 && n >= 0 && from <= 64 && n <= 64 && from+n <= len(p)
}

func (p plain) fill(r api.Run, v uint64) api.Errno {
	if !p.stands(r.From, r.N) {
		return api.ErrRange
	}
	for at := r.From; at < r.From+r.N; at++ {
		p[at] = v
	}
	return api.OK
}

func (p plain) move(r api.Run, to int) api.Errno {
	if !p.stands(r.From, r.N) || !p.stands(to, r.N) {
		return api.ErrRange
	}
	copy(p[to:], slices.Clone(p[r.From:r.From+r.N]))
	return api.OK
}

// TestP1_1EveryMove holds every run and target, those just beyond the edges too, against the plain memory.
func TestP1_1EveryMove(t *testing.T) {
	for size := range 7 {
		for from := -1; from <= size+1; from++ {
			for n := -1; n <= size+1; n++ {
				for to := -1; to <= size+1; to++ {
					m := numbered(t, size)
					p := plain(m.All())
					r := api.Run{From: from, N: n}
					wantErr(t, "Move", m.Move(r, to), p.move(r, to))
					wantAll(t, m, p...)
				}
			}
		}
	}
}

// TestP1_1AnyOrder holds a long mixed row of calls against the plain memory.
func TestP1_1AnyOrder(t *testing.T) {
	const size = 12
	m, _ := words.New(size)
	p := make(plain, size)
	state := uint64(1)
	next := func() int { // from -2 to size + 2
		state = state*6364136223846793005 + 1442695040888963407
		return int(state>>33)%(size+5) - 2
	}
	for step := range 20000 {
		v := uint64(step + 1)
		at, n, to := next(), next(), next()
		r := api.Run{From: at, N: n}
		switch step % 4 {
		case 0:
			wantErr(t, "Write", m.Write(at, v), p.fill(api.Run{From: at, N: 1}, v))
		case 1:
			wantErr(t, "Fill", m.Fill(r, v), p.fill(r, v))
		case 2:
			wantErr(t, "Move", m.Move(r, to), p.move(r, to))
		case 3:
			got, e := m.Read(at)
			if p.stands(at, 1) && (e != api.OK || got != p[at]) || !p.stands(at, 1) && (e != api.ErrRange || got != 0) {
				t.Errorf("Read(%d): got %d, %v", at, got, e)
			}
		}
		wantAll(t, m, p...)
		if t.Failed() {
			t.Fatalf("step %d: at %d, n %d, to %d", step, at, n, to)
		}
	}
}
