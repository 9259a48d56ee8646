package walk_test

import (
	"reflect"
	"slices"
	"testing"

	"kraal/api"
	"kraal/walk"
)

// copied is the same list of types, in memory of its own.
func copied(types []api.Desc) []api.Desc {
	var l []api.Desc
	for _, d := range types {
		l = append(l, api.Desc{Fields: slices.Clone(d.Fields)})
	}
	return l
}

func copiedObject(o api.Object) api.Object {
	o.Kinds, o.Values = slices.Clone(o.Kinds), slices.Clone(o.Values)
	return o
}

// spoil writes into all that an object's lists have, and behind their ends.
func spoil(o api.Object) {
	for i := range o.Kinds {
		o.Kinds[i] = -7
	}
	for i := range o.Values {
		o.Values[i] = 1 << 50
	}
	_, _ = append(o.Kinds, -7), append(o.Values, 1<<50)
}

// TestR3AnswersAreNew: who writes into what is answered changes neither the memory, nor the types, nor what is answered next, nor another object of the same answer.
func TestR3AnswersAreNew(t *testing.T) {
	types := someTypes()
	y, things, objects := street(t, allSorts(), types, 1)
	for i, o := range objects {
		got, _ := walk.One(y.mem, o.At, types)
		spoil(got)
		y.wantOne(types, o)
		l, _ := walk.Objects(y.mem, things, types)
		spoil(l[i])
		for j := range l {
			if j != i && !alike(l[j], objects[j]) {
				t.Errorf("behind writing into object %d: object %d is %+v, want %+v", i, j, l[j], objects[j])
			}
		}
		l[i] = api.Object{At: -1}
		_ = append(l, api.Object{At: -2})
		y.wantObjects(types, things, objects...)
	}
	y.wantCells()
	if !reflect.DeepEqual(types, someTypes()) {
		t.Errorf("the types were changed: %v", types)
	}
	// The same thing twice: two objects, each with lists of its own.
	l, _ := walk.Objects(y.mem, []api.Run{things[0], things[0]}, types)
	spoil(l[0])
	if !alike(l[1], objects[0]) {
		t.Errorf("of the same thing twice: %+v", l[1])
	}
}

// TestR3AnswersStay: what was answered stays, whoever writes into the memory, into the types or into the things then.
func TestR3AnswersStay(t *testing.T) {
	types := someTypes()
	y, things, objects := street(t, allSorts(), types, 1)
	l, _ := walk.Objects(y.mem, things, types)
	var ones []api.Object
	for _, o := range objects {
		one, _ := walk.One(y.mem, o.At, types)
		ones = append(ones, one)
	}
	for at := range y.cells {
		y.write(at, 131329)
	}
	for i := range things {
		things[i] = run(-1, -1)
	}
	for _, d := range types {
		for i := range d.Fields {
			d.Fields[i] = 9
		}
	}
	clear(types)
	if !slices.EqualFunc(l, objects, alike) || !slices.EqualFunc(ones, objects, alike) {
		t.Errorf("got %+v and %+v, want %+v", l, ones, objects)
	}
}

// TestR3HandedInStays: nothing that is handed in is changed, with an error or without; nor are words by asking.
func TestR3HandedInStays(t *testing.T) {
	types := someTypes()
	y, things, _ := street(t, allSorts(), types, 1)
	wrong := append(slices.Clone(things), run(0, 2))
	for _, l := range [][]api.Run{things, wrong} {
		// Behind the lists' ends there is somebody else's.
		own := append(slices.Clone(l), run(5, 5), run(6, 6))
		room := append(copied(types), api.Desc{Fields: []int{3}})
		y.objects(own[:len(l)], room[:len(types)])
		for _, r := range l {
			y.one(r.From+1, room[:len(types)])
		}
		if !slices.Equal(own[:len(l)], l) || own[len(l)] != run(5, 5) || own[len(l)+1] != run(6, 6) {
			t.Errorf("the things were changed: %v", own)
		}
		if !reflect.DeepEqual(room[:len(types)], someTypes()) || !reflect.DeepEqual(room[len(types)], api.Desc{Fields: []int{3}}) {
			t.Errorf("the types were changed: %v", room)
		}
		y.wantCells()
	}
}

// TestR4NilIsEmpty: lists that are nil are the same as empty ones.
func TestR4NilIsEmpty(t *testing.T) {
	y := laid(t, 131083, 5, 6, 3, 9, 65537, 8)
	for _, types := range [][]api.Desc{nil, {}} {
		y.wantOne(types, api.Object{At: 1, Head: array(2, 2), Kinds: []int{2, 2}, Values: []uint64{5, 6}})
		y.wantNone(types, 6, api.ErrNone)
		y.wantObjects(types, []api.Run{run(0, 3), run(3, 2)}, api.Object{At: 1, Head: array(2, 2), Kinds: []int{2, 2}, Values: []uint64{5, 6}}, api.Object{At: 4, Head: array(0, 0)})
		y.wantNoObjects(types, []api.Run{run(0, 3), run(5, 2)}, api.ErrNone)
		y.wantObjects(types, nil)
		y.wantObjects(types, []api.Run{})
	}
	for _, types := range [][]api.Desc{{{}}, {{Fields: []int{}}}} {
		y.wantNone(types, 6, api.ErrArg)
	}
}

// TestR5SameAgain: what is answered doesn't hang on what was asked before, of this memory or of another one.
func TestR5SameAgain(t *testing.T) {
	types := someTypes()
	y, things, objects := street(t, allSorts(), types, 1)
	other, _ := wrongs(t)
	for range 3 {
		other.wantPut(run(3, 3), object(1, 2), api.OK)
		other.wantNone(types, 41, api.ErrNone)
		other.wantNoObjects(types, []api.Run{run(20, 2), run(42, 4)}, api.ErrArg)
		y.wantObjects(types, things, objects...)
		y.wantNone(types, 0, api.ErrRange)
		for _, o := range objects {
			y.wantOne(types, copiedObject(o))
		}
		y.wantCells()
	}
}
