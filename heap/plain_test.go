package heap_test

import (
	"slices"

	"kraal/api"
)

// plain is what a heap should be, told in the simplest way: a graph of objects, and whose each page is. Counts aren't kept: they are enumerated.
type plain struct {
	types   []api.Desc
	owners  []int // of each page whose it is; 0: it is free
	regions []*region
	last    int
	globals []uint64
	frames  [][]uint64
}

// region is one that lives. left are the words that nothing stands in yet of the page that it placed its last small object in.
type region struct {
	id, parent int
	left       []int
	objects    []*object
}

type object struct {
	at     int
	head   api.Head
	kinds  []int
	values []uint64
}

// newPlain is a plain heap of a configuration that may be.
func newPlain(c api.Config) *plain {
	p := &plain{owners: make([]int, c.Pages), globals: make([]uint64, c.Globals)}
	for _, d := range c.Types {
		p.types = append(p.types, api.Desc{Fields: slices.Clone(d.Fields)})
	}
	return p
}

// region is the one of that number; nil, if it doesn't live.
func (p *plain) region(id uint64) *region {
	for _, r := range p.regions {
		if uint64(r.id) == id {
			return r
		}
	}
	return nil
}

// object is the one that begins there, and whose it is; nils, if there is none.
func (p *plain) object(at uint64) (*region, *object) {
	if at == 0 {
		return nil, nil
	}
	for _, r := range p.regions {
		for _, o := range r.objects {
			if uint64(o.at) == at {
				return r, o
			}
		}
	}
	return nil, nil
}

// target is the number of the region to which v points; 0, if to none.
func (p *plain) target(v uint64) int {
	if r, o := p.object(v); o != nil {
		return r.id
	}
	return 0
}

func (p *plain) mayBeStored(v uint64) bool { return v == 0 || p.target(v) != 0 }

// within tells whether a region is another one, or below it.
func (p *plain) within(id, of int) bool {
	for id != 0 && id != of {
		id = p.region(uint64(id)).parent
	}
	return id == of
}

func (p *plain) isParent(id int) bool {
	return slices.ContainsFunc(p.regions, func(r *region) bool { return r.parent == id })
}

// roots are what is in all globals, and then in all frames.
func (p *plain) roots() []uint64 {
	return append(slices.Clone(p.globals), slices.Concat(p.frames...)...)
}

// counts are of each region how many pointers from outside point into it.
func (p *plain) counts() map[int]uint64 {
	counts := map[int]uint64{}
	for _, v := range p.roots() {
		counts[p.target(v)]++
	}
	for _, r := range p.regions {
		for _, o := range r.objects {
			for i, v := range o.values {
				if target := p.target(v); o.kinds[i] == api.Counted && target != r.id {
					counts[target]++
				}
			}
		}
	}
	return counts
}

func (p *plain) newRegion(parent uint64) (uint64, api.Errno) {
	if parent != 0 && p.region(parent) == nil {
		return 0, api.ErrNone
	}
	if len(p.regions) == 64 {
		return 0, api.ErrFull
	}
	p.last++
	p.regions = append(p.regions, &region{id: p.last, parent: int(parent)})
	return uint64(p.last), api.OK
}

func (p *plain) delete(id uint64) api.Errno {
	r := p.region(id)
	switch {
	case r == nil:
		return api.ErrNone
	case p.isParent(r.id):
		return api.ErrBusy
	case p.counts()[r.id] != 0:
		return api.ErrHeld
	}
	for page, owner := range p.owners {
		if owner == r.id {
			p.owners[page] = 0
		}
	}
	p.regions = slices.DeleteFunc(p.regions, func(one *region) bool { return one == r })
	return api.OK
}

// kinds are those of the fields of an object of that head.
func (p *plain) kinds(h api.Head) ([]int, api.Errno) {
	switch {
	case h.Array && (h.Kind < 0 || h.Kind > 3):
		return nil, api.ErrKind
	case h.Array && (h.N < 0 || h.N > 4000):
		return nil, api.ErrArg
	case h.Array:
		return slices.Repeat([]int{h.Kind}, h.N), api.OK
	case h.Type < 0 || h.Type >= len(p.types):
		return nil, api.ErrNone
	case h.N != len(p.types[h.Type].Fields):
		return nil, api.ErrArg
	}
	return slices.Clone(p.types[h.Type].Fields), api.OK
}

func (p *plain) alloc(id uint64, h api.Head) (uint64, api.Errno) {
	r := p.region(id)
	if r == nil {
		return 0, api.ErrNone
	}
	kinds, e := p.kinds(h)
	if e != api.OK {
		return 0, e
	}
	if h.Array && h.Type != 0 || !h.Array && h.Kind != 0 {
		return 0, api.ErrArg
	}
	words := p.room(r, 1+max(h.N, 1))
	if words == nil {
		return 0, api.ErrFull
	}
	o := &object{at: words[1], head: h, kinds: kinds, values: make([]uint64, len(kinds))}
	r.objects = append(r.objects, o)
	return uint64(o.at), api.OK
}

// room are the next words, so many, of a region; none, if there is no room for them.
func (p *plain) room(r *region, size int) []int {
	words := r.left
	if size > len(words) {
		words = p.grant(r.id, (size+15)/16)
	}
	if size > len(words) {
		return nil
	}
	if size <= 16 {
		r.left = words[size:]
	}
	return words[:size]
}

// grant are the words of the first pages in a row, so many, that are free: a region has them then. None, if there are none.
func (p *plain) grant(id, n int) []int {
	for from := 0; from+n <= len(p.owners); from++ {
		if slices.ContainsFunc(p.owners[from:from+n], func(owner int) bool { return owner != 0 }) {
			continue
		}
		var words []int
		for i := range 16 * n {
			p.owners[from+i/16] = id
			words = append(words, 16*from+i)
		}
		return words
	}
	return nil
}

func (p *plain) set(at, i, v uint64) api.Errno {
	holder, o := p.object(at)
	switch {
	case o == nil:
		return api.ErrPtr
	case i >= uint64(len(o.kinds)):
		return api.ErrRange
	}
	if kind := o.kinds[i]; kind != api.Scalar && v != 0 {
		target := p.target(v)
		switch {
		case target == 0:
			return api.ErrPtr
		case kind == api.Same && target != holder.id, kind == api.Up && !p.within(holder.id, target):
			return api.ErrAnnot
		}
	}
	o.values[i] = v
	return api.OK
}

func (p *plain) get(at, i uint64) (uint64, api.Errno) {
	_, o := p.object(at)
	if o == nil {
		return 0, api.ErrPtr
	}
	return in(o.values, i)
}

// in is what is in a row at i.
func in(words []uint64, i uint64) (uint64, api.Errno) {
	if i >= uint64(len(words)) {
		return 0, api.ErrRange
	}
	return words[i], api.OK
}

// put puts a pointer into a row at i.
func (p *plain) put(words []uint64, i, v uint64) api.Errno {
	if _, e := in(words, i); e != api.OK {
		return e
	}
	if !p.mayBeStored(v) {
		return api.ErrPtr
	}
	words[i] = v
	return api.OK
}

func (p *plain) push(n uint64) api.Errno {
	if n > 16 {
		return api.ErrArg
	}
	if len(p.frames) == 64 {
		return api.ErrFull
	}
	p.frames = append(p.frames, make([]uint64, n))
	return api.OK
}

func (p *plain) pop() api.Errno {
	if len(p.frames) == 0 {
		return api.ErrNone
	}
	p.frames = p.frames[:len(p.frames)-1]
	return api.OK
}

func (p *plain) setSlot(i, v uint64) api.Errno {
	if len(p.frames) == 0 {
		return api.ErrNone
	}
	return p.put(p.frames[len(p.frames)-1], i, v)
}

func (p *plain) slot(i uint64) (uint64, api.Errno) {
	if len(p.frames) == 0 {
		return 0, api.ErrNone
	}
	return in(p.frames[len(p.frames)-1], i)
}

// live are the numbers of the regions that live.
func (p *plain) live() []int {
	var live []int
	for _, r := range p.regions {
		live = append(live, r.id)
	}
	return live
}

// objects are all objects, as the heap tells them.
func (p *plain) objects() []api.Object {
	var all []api.Object
	for _, r := range p.regions {
		for _, o := range r.objects {
			all = append(all, api.Object{At: o.at, Region: r.id, Head: o.head, Kinds: o.kinds, Values: o.values})
		}
	}
	return all
}

// pages are a region's pages, as the fewest runs.
func (p *plain) pages(id int) []api.Run {
	var runs []api.Run
	for page, owner := range p.owners {
		switch {
		case owner != id:
		case page > 0 && p.owners[page-1] == id:
			runs[len(runs)-1].N++
		default:
			runs = append(runs, api.Run{From: page, N: 1})
		}
	}
	return runs
}

func (p *plain) free() int {
	n := 0
	for _, owner := range p.owners {
		if owner == 0 {
			n++
		}
	}
	return n
}

// of is whose the page is in which a word stands.
func (p *plain) of(at uint64) int {
	if page := at / 16; page < uint64(len(p.owners)) {
		return p.owners[page]
	}
	return 0
}
