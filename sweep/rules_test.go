package sweep_test

import (
	"math"
	"reflect"
	"slices"
	"testing"

	"kraal/api"
	"kraal/sweep"
)

// some are objects of all sorts, and roots.
func some() plain {
	return plain{
		[]api.Object{
			object(5, 1, counted(9), counted(5), field{api.Up, 9}, counted(12)),
			object(9, 2, counted(5), counted(12), counted(0)),
			{At: 12, Region: 3, Kinds: []int{1, 1, 1}, Values: []uint64{9}},
			{At: 12, Region: 4, Kinds: []int{1}, Values: []uint64{5, 9}},
			object(0, 1, counted(9)),
			object(13, -1, counted(5)),
			object(math.MaxInt, math.MaxInt, counted(9), field{-1, 9}),
		},
		[]uint64{9, 0, 5, 5, 77, math.MaxInt},
	}
}

// askAll makes every call.
func askAll(p plain) {
	for _, v := range append(p.words(), nowhere...) {
		_ = sweep.Target(p.objects, v)
	}
	for _, region := range append(p.regions(), wrong...) {
		_ = sweep.Outgoing(p.objects, region)
		_ = sweep.Incoming(p.objects, p.roots, region)
	}
	_ = sweep.Counts(p.objects, p.roots)
}

// TestR1WrongInputs: whatever is handed in, each call ends and answers as the plain enumeration does.
func TestR1WrongInputs(t *testing.T) {
	var l []api.Object
	for i, region := range wrong {
		l = append(l, object(region, wrong[len(wrong)-1-i], counted(uint64(region)), counted(uint64(i))))
	}
	for i, v := range nowhere {
		l = append(l, object(i, i%4, field{noPointers[i], v}, counted(v), field{noPointers[i], uint64(i)}, counted(uint64(i))))
	}
	p := plain{l, append(slices.Clone(nowhere), 1, 2, 3, 4, 5)}
	wantPlain(t, p, wrong...)
	wantPlain(t, plain{nil, p.roots}, wrong...)
	wantPlain(t, plain{make([]api.Object, 3), p.roots}, wrong...)
	wantPlain(t, plain{}, wrong...)
}

// TestR3AnswersAreNew: who writes into what Outgoing and Counts answer, or behind its end, changes no other answer, none that comes later, and nothing that was handed in.
func TestR3AnswersAreNew(t *testing.T) {
	p := some()
	calls := []func() []api.Run{func() []api.Run { return sweep.Counts(p.objects, p.roots) }}
	for _, region := range append(p.regions(), 99) {
		calls = append(calls, func() []api.Run { return sweep.Outgoing(p.objects, region) })
	}
	for _, call := range calls {
		first, second := call(), call()
		want := slices.Clone(first)
		for i := range first {
			first[i] = run(-7, 99)
		}
		_ = append(first, run(1, 77))
		_ = append(first[:0], run(2, 77))
		if !slices.Equal(second, want) || !slices.Equal(call(), want) {
			t.Errorf("another answer was changed: got %v and %v, want %v", second, call(), want)
		}
		if !reflect.DeepEqual(p, some()) {
			t.Fatalf("what was handed in was changed: %+v", p)
		}
		wantPlain(t, p, wrong...)
	}
}

// TestR3HandedInStays: the objects, their lists and the roots are as they were, and so is what stands behind their ends.
func TestR3HandedInStays(t *testing.T) {
	whole := some()
	room := copied(whole.objects)
	for i, o := range room {
		room[i].Kinds = append(slices.Clip(o.Kinds), 1, 1)[:len(o.Kinds)]
		room[i].Values = append(slices.Clip(o.Values), 5, 9)[:len(o.Values)]
	}
	behind := object(1, 1, counted(9))
	room = append(room, behind)
	roots := append(slices.Clone(whole.roots), 9, 9)
	own := plain{room[:len(room)-1], roots[:len(roots)-2]}
	askAll(own)
	wantPlain(t, own, wrong...)
	if !reflect.DeepEqual(own, whole) || !reflect.DeepEqual(room[len(room)-1], behind) || !slices.Equal(roots, append(slices.Clone(whole.roots), 9, 9)) {
		t.Errorf("what was handed in was changed: %+v", own)
	}
	for _, o := range own.objects {
		k, v := len(o.Kinds), len(o.Values)
		if !slices.Equal(o.Kinds[k:k+2], []int{1, 1}) || !slices.Equal(o.Values[v:v+2], []uint64{5, 9}) {
			t.Errorf("behind the fields of %+v it was written", o)
		}
	}
}

// TestR3NothingIsKept: what was answered stays, whoever writes into the objects and roots then; and what is answered then hangs on these as they are.
func TestR3NothingIsKept(t *testing.T) {
	p := some()
	counts, goes := sweep.Counts(p.objects, p.roots), sweep.Outgoing(p.objects, 1)
	wantAtFirst := func() {
		t.Helper()
		if !slices.Equal(counts, some().counts()) || !slices.Equal(goes, some().outgoing(1)) {
			t.Errorf("an answer changed later: %v, %v", counts, goes)
		}
	}
	wantAtFirst()
	p.objects[0].Values[0], p.objects[0].Kinds[2] = 12, 1
	p.objects[1].Region, p.objects[2].At = 6, 20
	p.roots[1] = 20
	wantPlain(t, p, wrong...)
	wantAtFirst()
	clear(p.objects[0].Values)
	clear(p.roots)
	wantPlain(t, p, wrong...)
	clear(p.objects)
	wantPlain(t, p, wrong...)
	wantAtFirst()
}

// TestR4NilIsEmpty: lists that are nil are the same as empty ones, those in objects too.
func TestR4NilIsEmpty(t *testing.T) {
	none := []api.Object{{At: 5, Region: 1}, {At: 9, Region: 2, Kinds: []int{}, Values: []uint64{}}, {At: 12, Region: 3, Kinds: []int{}}, {At: 13, Region: 4, Values: []uint64{}}}
	for _, l := range [][]api.Object{nil, {}, none} {
		for _, roots := range [][]uint64{nil, {}} {
			wantCounts(t, l, roots)
			wantPlain(t, plain{l, roots}, wrong...)
		}
		for region := range 5 {
			wantOutgoing(t, l, region)
		}
	}
	wantCounts(t, none, []uint64{5, 13, 5}, run(1, 2), run(4, 1))
	wantTarget(t, none, 12, 3)
	wantTarget(t, nil, 12, 0)
}

// TestR5SameAgain: what is answered doesn't hang on what was asked before, of these objects or of others.
func TestR5SameAgain(t *testing.T) {
	p, other := some(), plain{[]api.Object{object(9, 7, counted(5), counted(12)), object(5, 2, counted(9)), object(12, 1)}, []uint64{12}}
	for range 3 {
		wantPlain(t, p, wrong...)
		wantPlain(t, other, wrong...)
		askAll(other)
	}
	wantCounts(t, other.objects, other.roots, run(1, 2), run(2, 1), run(7, 1))
	wantOutgoing(t, other.objects, 7, run(1, 1), run(2, 1))
	wantTarget(t, p.objects, 9, 2)
}

// TestR5OrderOfObjects: the order of objects at places of their own, and of the roots, is of no account.
func TestR5OrderOfObjects(t *testing.T) {
	m := mixed(7)
	for range 200 {
		p := apart(m.some(shapes[4]))
		turned := plain{slices.Clone(p.objects), slices.Clone(p.roots)}
		slices.Reverse(turned.objects)
		slices.Reverse(turned.roots)
		wantCounts(t, turned.objects, turned.roots, sweep.Counts(p.objects, p.roots)...)
		for _, region := range p.regions() {
			wantOutgoing(t, turned.objects, region, sweep.Outgoing(p.objects, region)...)
		}
		for _, v := range p.words() {
			wantTarget(t, turned.objects, v, sweep.Target(p.objects, v))
		}
		if t.Failed() {
			t.FailNow()
		}
	}
}
