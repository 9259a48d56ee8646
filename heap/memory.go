package heap

import (
	"slices"

	"kraal/api"
	"kraal/owner"
	"kraal/pages"
	"kraal/starts"
	"kraal/walk"
)

// nowhere is the region that is none: the target of what points to no object, the holder of what is no object's field, and whose the pages are that are free.
const nowhere = 0

// memory has the words of all objects, and what is told of these words. The pages are a named field: embedded, they would lend the heap their Grant, Back and Mem, and anybody could take pages, and write words, past it.
type memory struct {
	pages  *pages.Pages
	owners *owner.Map
	starts *starts.Starts
	types  []api.Desc
}

// newMemory is the memory of some pages, for objects of types that may be.
func newMemory(p *pages.Pages, types []api.Desc) memory {
	return memory{
		pages:  p,
		owners: owner.New(p.Len()),
		starts: starts.New(p.Len() * api.PageWords),
		types:  copied(types),
	}
}

// Free is how many pages are free.
func (m *memory) Free() int { return m.pages.Free() }

// Len is how many pages there are.
func (m *memory) Len() int { return m.pages.Len() }

// Of is whose the page of a word is.
func (m *memory) Of(at uint64) int {
	// Cut to an int, a huge number may be another word's.
	if at >= api.MaxWords {
		return nowhere
	}
	return m.owners.Word(int(at))
}

// target is the region to which v points, and whether it may be stored as a pointer.
func (m *memory) target(v uint64) (int, bool) {
	if v == 0 {
		return nowhere, true
	}
	if !m.starts.Is(v) {
		return nowhere, false
	}
	return m.Of(v), true
}

// object is the object that begins at a word, if one does.
func (m *memory) object(at uint64) (api.Object, bool) {
	if !m.starts.Is(at) {
		return api.Object{}, false
	}
	// Its head stands there since it was made, and is written by nobody: the object is always told.
	o, _ := walk.One(m.pages.Mem(), int(at), m.types)
	o.Region = m.Of(at)
	return o, true
}

// lay makes a fresh object of a region's thing, and tells its address. Nothing of this is refused: the thing has just the words that an object of that head takes, and no object begins among them.
func (m *memory) lay(thing api.Run, head api.Head, region int) uint64 {
	walk.Put(m.pages.Mem(), thing, head)
	m.owners.Set(around(thing), region)
	at := begins(thing)
	m.starts.Put(int(at))
	return at
}

// forget has a region's pages be nobody's, and none of its objects begin any more.
func (m *memory) forget(region int) {
	for _, r := range m.owners.Of(region) {
		m.starts.Drop(api.Run{From: r.From * api.PageWords, N: r.N * api.PageWords})
		m.owners.Set(r, nowhere)
	}
}

// begins is where a thing's object begins, behind its head.
func begins(thing api.Run) uint64 { return uint64(thing.From) + 1 }

// around are the pages in which a thing stands: its region has them all, those too that it had ahead of it.
func around(thing api.Run) api.Run {
	first, last := thing.From/api.PageWords, (thing.From+thing.N-1)/api.PageWords
	return api.Run{From: first, N: last - first + 1}
}

// copied are the same types, in memory of their own.
func copied(types []api.Desc) []api.Desc {
	own := slices.Clone(types)
	for i, d := range own {
		own[i].Fields = slices.Clone(d.Fields)
	}
	return own
}
