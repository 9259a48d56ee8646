package census_test

import (
	"math"
	"reflect"
	"slices"
	"testing"

	"kraal/api"
	"kraal/census"
	"kraal/frames"
	"kraal/globals"
	"kraal/heap"
	"kraal/pages"
	"kraal/tally"
)

// No row of calls breaks a heap, and so none has Audit answer false. Here one of its parts is told something behind its back.

// part is the part of that type that a heap has.
func part[T any](t *testing.T, h *heap.Heap) *T {
	t.Helper()
	v, ok := field(reflect.ValueOf(h).Elem(), reflect.TypeFor[*T]())
	if !ok {
		t.Fatalf("a heap has no %v: it must be broken in another way here", reflect.TypeFor[*T]())
	}
	return (*T)(v.UnsafePointer())
}

// field is the first field of that type, of a struct or of those embedded in it.
func field(v reflect.Value, of reflect.Type) (reflect.Value, bool) {
	for i := range v.NumField() {
		f := v.Field(i)
		if f.Type() == of {
			return f, true
		}
		if f.Kind() == reflect.Struct {
			if found, ok := field(f, of); ok {
				return found, true
			}
		}
	}
	return reflect.Value{}, false
}

// write writes a word past the heap.
func write(t *testing.T, h *heap.Heap, at int, v uint64) {
	t.Helper()
	done(t, part[pages.Pages](t, h).Mem().Write(at, v))
}

// wantAudit: the audit is such, plainly counted too.
func wantAudit(t *testing.T, h *heap.Heap, what string, want bool) {
	t.Helper()
	p := told(h)
	if got := census.Audit(h); got != want || p.audit() != want {
		t.Errorf("%s: got %v, plainly counted %v, want %v", what, got, p.audit(), want)
	}
	if then := told(h); !reflect.DeepEqual(then, p) {
		t.Errorf("%s: the heap was changed: it told %+v, and then %+v", what, p, then)
	}
}

// busy is a heap in which something points to each region but 2, from fields and from roots.
func busy(t *testing.T) *heap.Heap {
	t.Helper()
	h := beside(t)
	done(t,
		h.Set(17, api.Scalar, 99), h.Set(17, api.Counted, 65), h.Set(17, api.Same, 22), h.Set(17, api.Up, 1),
		h.Set(70, 2, 49), h.Set(70, 0, 49), h.SetGlobal(1, 33), h.Push(3), h.SetSlot(1, 65), h.Push(0), h.Push(1), h.SetSlot(0, 6))
	return h
}

// TestP20_1AuditCounts: a count that is one more, or one less, than what enumeration finds, of whichever region, and also where another one's makes up for that.
func TestP20_1AuditCounts(t *testing.T) {
	for id := 1; id <= 5; id++ {
		h := busy(t)
		wantAudit(t, h, "unbroken", true)
		counts := part[tally.Tally](t, h)
		done(t, counts.Add(id, 1))
		wantAudit(t, h, "one more", false)
		done(t, counts.Add(id, -1))
		wantAudit(t, h, "mended", true)
		counts.Forget(id)
		wantAudit(t, h, "none", id == 2)
		if id != 2 {
			h = busy(t)
			done(t, part[tally.Tally](t, h).Swap(id, id%5+1))
			wantAudit(t, h, "one less, and one more of another one", false)
		}
	}
	// A count of a region that doesn't live is nobody's.
	h := busy(t)
	done(t, part[tally.Tally](t, h).Add(9, 1))
	wantAudit(t, h, "of no region", true)
}

// noPointers are words that are no object's address of the heap beside: heads', those inside of objects, in free pages, behind all.
var noPointers = append([]uint64{2, 3, 5, 16, 18, 48, 64, 66, 71, 73, 80, 81, 95, 96, 97, 1<<14 + 1, 1<<16 + 1, 1<<63 + 17, 1<<32 + 65}, huge...)

// TestP20_1AuditFields: a field of whichever kind of pointers that is neither 0 nor an object's address; a scalar may be any word.
func TestP20_1AuditFields(t *testing.T) {
	for _, v := range noPointers {
		h := beside(t)
		for at := range 5 {
			for kind := api.Counted; kind <= api.Up; kind++ {
				write(t, h, 16*at+1+kind, v)
				wantAudit(t, h, "no object's address", false)
				write(t, h, 16*at+1+kind, 0)
			}
			write(t, h, 16*at+1+api.Scalar, v)
			write(t, h, 16*at+8, v)
			wantAudit(t, h, "the last field of an array", false)
			write(t, h, 16*at+8, 0)
			wantAudit(t, h, "a scalar", true)
		}
	}
}

// TestP20_1AuditRoots: likewise globals, and slots of all frames.
func TestP20_1AuditRoots(t *testing.T) {
	for _, v := range noPointers {
		h := busy(t)
		roots, stack := part[globals.Slots](t, h), part[frames.Stack](t, h)
		for i := range uint64(2) {
			was, _ := roots.Set(i, 0)
			wantAudit(t, h, "a global that is 0", was == 0)
			roots.Set(i, v)
			wantAudit(t, h, "a global", false)
			roots.Set(i, was)
		}
		wantAudit(t, h, "mended", true)
		done(t, h.Pop(), h.Push(1))
		stack.Set(0, v)
		wantAudit(t, h, "a slot", false)
		done(t, stack.Push(2))
		wantAudit(t, h, "a slot of a frame below", false)
		stack.Pop()
		stack.Set(0, 0)
		wantAudit(t, h, "mended again", true)
	}
}

// TestP20_1AuditCountedFields: a pointer that is an object's address, and that no count knows of: from outside it is missing there, within its region it isn't; so is a root.
func TestP20_1AuditCountedFields(t *testing.T) {
	for from := range 5 {
		for to := range uint64(5) {
			for _, v := range []uint64{16*to + 1, 16*to + 6} {
				h := beside(t)
				write(t, h, 16*from+1+api.Counted, v)
				wantAudit(t, h, "a counted pointer", int(to) == from)
				write(t, h, 16*from+1+api.Counted, 0)
				// That those of the other kinds point where they may isn't asked.
				write(t, h, 16*from+1+api.Same, v)
				write(t, h, 16*from+1+api.Up, v)
				wantAudit(t, h, "pointers that aren't counted", true)
				part[globals.Slots](t, h).Set(1, v)
				wantAudit(t, h, "a global", false)
			}
		}
	}
}

// TestP20_1AuditPages: a page that is neither free nor a region's, and one that is both.
func TestP20_1AuditPages(t *testing.T) {
	for page := range 5 {
		h := busy(t)
		land := part[pages.Pages](t, h)
		if _, e := land.Grant(1); e != api.OK {
			t.Fatal(e)
		}
		wantAudit(t, h, "a page is nobody's", false)
		done(t, land.Back(api.Run{From: page, N: 1}))
		wantAudit(t, h, "as many as there are", true)
		done(t, land.Back(api.Run{From: 5, N: 1}))
		wantAudit(t, h, "a region's page is free", false)
	}
	h := made(t, api.Config{Pages: 3})
	part[pages.Pages](t, h).Grant(3)
	wantAudit(t, h, "no regions, and no page free", false)
}

// TestP20_1RowsOfBroken: rows tell the count that is told, not the one that is found; pointers to nowhere don't go out, and a field Same that points out of its region isn't counted all the same, and holds nothing.
func TestP20_1RowsOfBroken(t *testing.T) {
	h := beside(t)
	done(t, part[tally.Tally](t, h).Add(2, 7))
	write(t, h, 17+api.Counted, 65)
	write(t, h, 17+api.Same, 38)
	write(t, h, 70, math.MaxUint64)
	write(t, h, 71, 66)
	got := census.Rows(h)
	want := []census.Row{row(1, 2, 9, 1), row(2, 2, 9, 1, 7, 1), row(3, 2, 9, 1), row(4, 2, 9, 1), row(5, 2, 9, 1)}
	if !slices.Equal(got, want) {
		t.Errorf("Rows: got %+v, want %+v", got, want)
	}
	for id := range uint64(5) {
		wantHeld(t, h, id)
	}
	wantHeld(t, h, 5, 65)
}
