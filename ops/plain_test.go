package ops_test

import (
	"bytes"
	"math"
	"slices"
	"strings"
	"testing"

	"kraal/api"
	"kraal/ops"
)

// size is how many bytes an operation has, as the chapter tells it.
const size = 25

// inOrder are the kinds' names as the chapter lists them: of the kind 1 first.
var inOrder = strings.Fields("region sub delete new array set get global look push pop slot peek count free")

// edges are numbers at the ends of bytes and of words.
var edges = []uint64{0, 1, 2, 127, 128, 254, 255, 256, 257, 0xfeff, 0xffff, 0x10000, 1<<31 - 1, 1 << 31, 1<<32 - 1, 1 << 32, 1<<56 - 1, 1 << 56, 1<<63 - 1, 1 << 63, 1<<63 + 1, math.MaxUint64 - 1, math.MaxUint64}

// wrong are kinds of operations that may not be. Cut to a byte, to 16 bits or to 32, some of them would be kinds that there are.
var wrong = []int{
	-1, 256, -2, 257, 265, 271, 272, 511, 512, -15, -128, -241, -255, -256, -257, 0xffff, 0x10000, 0x10001, -0x10000 + 1,
	1<<31 - 1, 1 << 31, 1<<31 + 1, 1 << 32, 1<<32 + 1, 1<<32 + 15, -1 << 31, -1<<32 + 1, 1 << 62,
	math.MinInt, math.MinInt + 1, math.MinInt + 15, math.MaxInt - 1, math.MaxInt,
}

// plainPut are the bytes by the chapter's words alone, by division; ok tells whether all may be.
func plainPut(l []api.Op) (b []byte, ok bool) {
	for _, o := range l {
		if o.Kind < 0 || o.Kind > 255 {
			return nil, false
		}
		one := [size]byte{byte(o.Kind)}
		for place, v := range []uint64{o.A, o.B, o.C} {
			for i := range 8 {
				one[1+8*place+i] = byte(v % 256)
				v /= 256
			}
		}
		b = append(b, one[:]...)
	}
	return b, true
}

// plainGet are the operations of bytes, each number's bytes from the last one, the highest, to the first.
func plainGet(b []byte) (l []api.Op, ok bool) {
	for ; len(b) >= size; b = b[size:] {
		var v [3]uint64
		for place := range v {
			for i := 7; i >= 0; i-- {
				v[place] = v[place]*256 + uint64(b[1+8*place+i])
			}
		}
		l = append(l, api.Op{Kind: int(b[0]), A: v[0], B: v[1], C: v[2]})
	}
	if len(b) != 0 {
		return nil, false
	}
	return l, true
}

// plainKind is the kind of a name by the list alone.
func plainKind(name string) (int, bool) {
	if i := slices.Index(inOrder, name); i >= 0 {
		return i + 1, true
	}
	return 0, false
}

// wantPut: Put answers the plain bytes, or ErrArg and none, and leaves the list as it was.
func wantPut(t *testing.T, l ...api.Op) {
	t.Helper()
	was := slices.Clone(l)
	b, ok := plainPut(l)
	want := api.OK
	if !ok {
		want = api.ErrArg
	}
	got, e := ops.Put(l)
	if e != want || !bytes.Equal(got, b) {
		t.Errorf("Put(%v): got %x, %v, want %x, %v", l, got, e, b, want)
	}
	if !slices.Equal(l, was) {
		t.Errorf("Put(%v) changed what was handed in: %v", was, l)
	}
}

// wantGet: Get answers the plain operations, or ErrShort and none, and leaves the bytes as they were.
func wantGet(t *testing.T, b ...byte) {
	t.Helper()
	was := slices.Clone(b)
	l, ok := plainGet(b)
	want := api.OK
	if !ok {
		want = api.ErrShort
	}
	got, e := ops.Get(b)
	if e != want || !slices.Equal(got, l) {
		t.Errorf("Get(%x): got %v, %v, want %v, %v", b, got, e, l, want)
	}
	if !bytes.Equal(b, was) {
		t.Errorf("Get(%x) changed what was handed in: %x", was, b)
	}
}

// wantKind: Kind answers the plain kind.
func wantKind(t *testing.T, name string) {
	t.Helper()
	kind, ok := plainKind(name)
	if got, found := ops.Kind(name); got != kind || found != ok {
		t.Errorf("Kind(%q): got %d, %v, want %d, %v", name, got, found, kind, ok)
	}
}

// noName: of this name there is no kind.
func noName(t *testing.T, name string) {
	t.Helper()
	if got, found := ops.Kind(name); got != 0 || found {
		t.Errorf("Kind(%q): got %d, %v, want none", name, got, found)
	}
}

// chance hands out numbers that look like chance, and are the same each time.
type chance uint64

func (c *chance) word() uint64 {
	*c = *c*6364136223846793005 + 1442695040888963407
	high := uint64(*c) >> 32
	*c = *c*6364136223846793005 + 1442695040888963407
	return high<<32 | uint64(*c)>>32
}

func (c *chance) upTo(n int) int { return int(c.word()>>1) % (n + 1) }

// number is one at an edge, or any one.
func (c *chance) number() uint64 {
	if c.upTo(1) == 0 {
		return edges[c.upTo(len(edges)-1)]
	}
	return c.word()
}

// row is a list of n operations that may be.
func (c *chance) row(n int) []api.Op {
	l := make([]api.Op, n)
	for i := range l {
		l[i] = api.Op{Kind: c.upTo(255), A: c.number(), B: c.number(), C: c.number()}
	}
	return l
}

// bytes are n bytes.
func (c *chance) bytes(n int) []byte {
	b := make([]byte, n)
	for i := range b {
		b[i] = byte(c.word())
	}
	return b
}

// counting are n bytes, of which each one in a row of 251 is another one.
func counting(n int) []byte {
	b := make([]byte, n)
	for i := range b {
		b[i] = byte(1 + i%251)
	}
	return b
}
