package header_test

import (
	"math"
	"slices"
	"testing"

	"kraal/api"
	"kraal/header"
)

// plain has all heads that may be and their words, counted up in the simplest way.
type plain struct {
	words map[api.Head]uint64
	heads map[uint64]api.Head
}

func newPlain() plain {
	p := plain{words: map[api.Head]uint64{}, heads: map[uint64]api.Head{}}
	for kind := range 4 {
		for n := range 4001 {
			p.add(api.Head{Array: true, Kind: kind, N: n}, 1+2+4*kind+65536*n)
		}
	}
	for typ := range 32 {
		for n := 1; n <= 60; n++ {
			p.add(api.Head{Type: typ, N: n}, 1+256*typ+65536*n)
		}
	}
	return p
}

func (p plain) add(h api.Head, w int) {
	p.words[h] = uint64(w)
	p.heads[uint64(w)] = h
}

// wantHead: Put and Size answer of a head as the plain ones do.
func (p plain) wantHead(t *testing.T, h api.Head) {
	t.Helper()
	word, may := p.words[h]
	e, size := api.ErrArg, 0
	if may {
		e, size = api.OK, 1+h.N
	}
	if may && h.N == 0 {
		size = 2
	}
	if gotWord, gotErr := header.Put(h); gotWord != word || gotErr != e {
		t.Errorf("Put(%+v): got %d, %v, want %d, %v", h, gotWord, gotErr, word, e)
	}
	if got := header.Size(h); got != size {
		t.Errorf("Size(%+v): got %d, want %d", h, got, size)
	}
}

// wantWord: Get answers of a word as the plain one does.
func (p plain) wantWord(t *testing.T, w uint64) {
	t.Helper()
	head, is := p.heads[w]
	e := api.ErrForm
	if is {
		e = api.OK
	}
	if got, gotErr := header.Get(w); got != head || gotErr != e {
		t.Errorf("Get(%d): got %+v, %v, want %+v, %v", w, got, gotErr, head, e)
	}
}

// wantNone: the word is none's, and the head told of it all zero.
func (p plain) wantNone(t *testing.T, words ...uint64) {
	t.Helper()
	for _, w := range words {
		if _, is := p.heads[w]; is {
			t.Fatalf("the plain model says that %d is a head's", w)
		}
		p.wantWord(t, w)
	}
}

func array(kind, n int) api.Head { return api.Head{Array: true, Kind: kind, N: n} }

func object(typ, n int) api.Head { return api.Head{Type: typ, N: n} }

// near are the numbers around which a part's number is too small, too great, or, times what it counts for, another part's or none at all, with those beside them.
func near() []int {
	var all []int
	for _, n := range []int{0, 4, 8, 31, 60, 64, 128, 255, 4000, 1 << 14, 1 << 16, 1 << 24, 1 << 31, 1 << 32, 1 << 40, 1 << 48, 1 << 56, 1 << 61, 1 << 62} {
		for d := -2; d <= 2; d++ {
			all = append(all, n+d, -n+d)
		}
	}
	all = append(all, math.MinInt, math.MinInt+1, math.MinInt+2, math.MinInt+3, math.MinInt+64, math.MaxInt-1, math.MaxInt)
	slices.Sort(all)
	return slices.Compact(all)
}

// asWritten are heads with their words and sizes, worked out by hand.
var asWritten = []struct {
	h    api.Head
	w    uint64
	size int
}{
	{object(1, 2), 131329, 3},
	{array(0, 0), 3, 2},
	{array(1, 0), 7, 2},
	{array(2, 0), 11, 2},
	{array(3, 0), 15, 2},
	{array(0, 1), 65539, 2},
	{array(1, 1), 65543, 2},
	{array(2, 2), 131083, 3},
	{array(3, 3), 196623, 4},
	{array(0, 3999), 262078467, 4000},
	{array(0, 4000), 262144003, 4001},
	{array(1, 4000), 262144007, 4001},
	{array(2, 4000), 262144011, 4001},
	{array(3, 4000), 262144015, 4001},
	{object(0, 1), 65537, 2},
	{object(0, 60), 3932161, 61},
	{object(31, 1), 73473, 2},
	{object(31, 60), 3940097, 61},
	{object(30, 59), 3874305, 60},
}

// TestP8_1AsWritten: the chapter's example, and heads of all sorts, the least and the greatest among them.
func TestP8_1AsWritten(t *testing.T) {
	for _, x := range asWritten {
		if w, e := header.Put(x.h); w != x.w || e != api.OK {
			t.Errorf("Put(%+v): got %d, %v, want %d", x.h, w, e, x.w)
		}
		if h, e := header.Get(x.w); h != x.h || e != api.OK {
			t.Errorf("Get(%d): got %+v, %v, want %+v", x.w, h, e, x.h)
		}
		if size := header.Size(x.h); size != x.size {
			t.Errorf("Size(%+v): got %d, want %d", x.h, size, x.size)
		}
	}
}

// TestP8_1MayNot: heads just beside those that may be, and of the other sort's parts.
func TestP8_1MayNot(t *testing.T) {
	for _, h := range []api.Head{
		{},
		array(0, -1), array(3, -1), array(0, 4001), array(3, 4001), array(4, 0), array(4, 1), array(-1, 1), array(4, 4001),
		object(0, 0), object(31, 0), object(0, -1), object(0, 61), object(31, 61), object(32, 1), object(32, 60), object(-1, 1),
		{Array: true, Type: 1}, {Array: true, Type: 1, N: 1}, {Array: true, Kind: 3, Type: 31, N: 4000}, {Array: true, Kind: 1, Type: -1, N: 5},
		{Kind: 1, N: 1}, {Kind: 3, Type: 31, N: 60}, {Kind: 4, Type: 1, N: 2}, {Kind: -1, Type: 1, N: 2},
		array(math.MinInt, 1), array(math.MaxInt, 1), array(0, math.MinInt), array(0, math.MaxInt),
		object(math.MinInt, 1), object(math.MaxInt, 1), object(0, math.MinInt), object(0, math.MaxInt),
	} {
		if w, e := header.Put(h); w != 0 || e != api.ErrArg {
			t.Errorf("Put(%+v): got %d, %v", h, w, e)
		}
		if size := header.Size(h); size != 0 {
			t.Errorf("Size(%+v): got %d", h, size)
		}
	}
}

// TestP8_1HeadsNear: every head whose parts are all of the numbers near what may be, or huge.
func TestP8_1HeadsNear(t *testing.T) {
	p := newPlain()
	parts := near()
	for _, kind := range parts {
		for _, typ := range parts {
			for _, n := range parts {
				// A Kind and a Type that are both there are wrong in either sort: a few N's are enough for them.
				if kind != 0 && typ != 0 && n != 1 && n != 60 {
					continue
				}
				p.wantHead(t, api.Head{Array: true, Kind: kind, Type: typ, N: n})
				p.wantHead(t, api.Head{Kind: kind, Type: typ, N: n})
			}
		}
	}
}

// TestP8_1OneBitTurned: the words of all heads, each with one bit turned, at every bit.
func TestP8_1OneBitTurned(t *testing.T) {
	p := newPlain()
	for w := range p.heads {
		p.wantWord(t, w)
		for bit := range 64 {
			p.wantWord(t, w^1<<bit)
		}
	}
}

// TestP8_1WordsInARow: all words with N up to 61, and those of every other N up to beyond the greatest, each with all parts that might be, and more.
func TestP8_1WordsInARow(t *testing.T) {
	p := newPlain()
	for w := range uint64(62 * 65536) {
		p.wantWord(t, w)
	}
	for n := uint64(62); n < 4100; n++ {
		for low := range uint64(600) {
			p.wantWord(t, 65536*n+low)
		}
		for _, low := range []uint64{31*256 + 1, 31*256 + 3, 32*256 + 1, 32*256 + 15, 128*256 + 1, 65533, 65535} {
			p.wantWord(t, 65536*n+low)
		}
	}
}

// TestP8_1WordsOfHugeN: words with bits above those of the greatest N, with all that may stand below them.
func TestP8_1WordsOfHugeN(t *testing.T) {
	p := newPlain()
	for _, n := range []uint64{4095, 4096, 4097, 65535, 1 << 16, 1<<16 + 1, 1 << 31, 1<<32 - 1, 1 << 32, 1<<32 + 1, 1<<32 + 4000, 1 << 40, 1 << 46, 1<<47 - 1, 1 << 47, 1<<47 + 1, 1<<47 + 60, 1<<48 - 4000, 1<<48 - 60, 1<<48 - 1} {
		for low := range uint64(65536) {
			p.wantNone(t, 65536*n+low)
		}
	}
}

// TestP8_1NonesWords: words that are none's, for every reason that there is.
func TestP8_1NonesWords(t *testing.T) {
	p := newPlain()
	p.wantNone(t, 0, 1, 2, 4, 5, 256, 257, 65536, math.MaxUint64, math.MaxUint64-1, 1<<63, 1<<63+1, 1<<63+3, math.MaxInt64)
	for _, x := range asWritten {
		p.wantNone(t, x.w-1, x.w+1<<28, x.w+1<<32, x.w+1<<48, x.w+1<<63, -x.w)
	}
	// A Kind of 4 and more in an array's, any but 0 in another one's.
	for kind := uint64(1); kind < 64; kind++ {
		if kind > 3 {
			p.wantNone(t, 3+4*kind, 65539+4*kind, 262144003+4*kind)
		}
		p.wantNone(t, 65537+4*kind, 3940097+4*kind)
	}
	// A Type of 32 and more in another one's, any but 0 in an array's.
	for typ := uint64(1); typ < 256; typ++ {
		if typ > 31 {
			p.wantNone(t, 65537+256*typ, 3932161+256*typ)
		}
		p.wantNone(t, 3+256*typ, 65539+256*typ, 262144015+256*typ)
	}
	// An N of 0 or of more than 60 in another one's, of more than 4000 in an array's.
	p.wantNone(t, 1, 1+31*256, 61*65536+1, 62*65536+31*256+1, 4000*65536+1, 4001*65536+1, 4001*65536+3, 4001*65536+15, 4095*65536+3, 65535*65536+3)
}

// TestP8_1MixedWords: words with bits set all over, and few ones, made by a rule.
func TestP8_1MixedWords(t *testing.T) {
	p := newPlain()
	x := uint64(1)
	for range 300000 {
		x = x*6364136223846793005 + 1442695040888963407
		p.wantWord(t, x)
		p.wantWord(t, x>>32)
		p.wantWord(t, x>>36)
		p.wantWord(t, x>>36|1)
		p.wantWord(t, x>>36&0xfff1f0f|3)
		p.wantWord(t, x>>42&0x3f1f00|1)
	}
}

// TestP8_2PutAndRead: every head that may be, put and read again, is itself, and takes what it is said to take.
func TestP8_2PutAndRead(t *testing.T) {
	p := newPlain()
	for h := range p.words {
		p.wantHead(t, h)
		w, _ := header.Put(h)
		if back, e := header.Get(w); back != h || e != api.OK {
			t.Errorf("%+v, put and read again: %+v, %v", h, back, e)
		}
	}
}

// TestP8_2UnlikeWords: unlike heads have unlike words, none of them 0.
func TestP8_2UnlikeWords(t *testing.T) {
	of := map[uint64]api.Head{}
	for h := range newPlain().words {
		w, e := header.Put(h)
		if other, known := of[w]; known || w == 0 || e != api.OK {
			t.Errorf("the word of %+v is %d, %v; that is the one of %+v, %v", h, w, e, other, known)
		}
		of[w] = h
	}
	if len(of) != 4*4001+32*60 {
		t.Errorf("there are %d words", len(of))
	}
}

// TestP8_2ReadAndPut: every word that is read as a head is that head's word; all are tried whose parts are at most as great as a head's may be, and those beside them.
func TestP8_2ReadAndPut(t *testing.T) {
	heads := 0
	for n := range uint64(4003) {
		for typ := range uint64(34) {
			for low := range uint64(24) {
				w := 65536*n + 256*typ + low
				h, e := header.Get(w)
				if e != api.OK {
					continue
				}
				heads++
				if back, e := header.Put(h); back != w || e != api.OK {
					t.Errorf("%d is read as %+v, whose word is %d, %v", w, h, back, e)
				}
			}
		}
	}
	if heads != 4*4001+32*60 {
		t.Errorf("%d words are read as heads", heads)
	}
}

// TestR5SameAgain: what is answered doesn't hang on what was asked before.
func TestR5SameAgain(t *testing.T) {
	p := newPlain()
	for range 3 {
		for _, x := range asWritten {
			p.wantNone(t, x.w+1<<40)
			p.wantHead(t, api.Head{Array: !x.h.Array, Kind: x.h.Kind, Type: x.h.Type, N: -x.h.N})
			p.wantHead(t, x.h)
			p.wantWord(t, x.w)
		}
	}
}
