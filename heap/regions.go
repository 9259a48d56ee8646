package heap

import (
	"kraal/api"
	"kraal/arena"
	"kraal/ids"
	"kraal/tally"
	"kraal/tree"
)

// regions are those that live: in all of its fields there are just these.
type regions struct {
	book   *ids.Book
	tree   *tree.Tree
	arenas map[int]*arena.Arena
	counts *tally.Tally
}

func newRegions() regions {
	return regions{
		book:   ids.New(api.MaxLive),
		tree:   tree.New(),
		arenas: map[int]*arena.Arena{},
		counts: tally.New(),
	}
}

// Count is a region's count.
func (r *regions) Count(region uint64) (uint64, api.Errno) {
	id, lives := r.number(region)
	if !lives {
		return 0, api.ErrNone
	}
	return uint64(r.counts.Of(id)), api.OK
}

// Live are the regions that live.
func (r *regions) Live() []int { return r.book.All() }

// number is a region's number as the layers below take it, and whether it lives; 0, if it doesn't.
func (r *regions) number(region uint64) (int, bool) {
	// Cut to an int, a huge number may be another region's: none is above the last one.
	if region > uint64(r.book.Last()) || !r.book.Lives(int(region)) {
		return 0, false
	}
	return int(region), true
}

// begin has a new region live, with an arena for its objects, below one that lives, or below none.
func (r *regions) begin(parent int, a *arena.Arena) (uint64, api.Errno) {
	id, e := r.book.Give()
	if e != api.OK {
		return 0, e
	}
	// The tree refuses no new number, and no parent that lives.
	r.tree.Add(id, parent)
	r.arenas[id] = a
	return uint64(id), api.OK
}

// end has a region that lives, is no one's parent and has no count, live no longer. Nothing of this is refused: none but the region gives its pages back.
func (r *regions) end(id int) {
	r.arenas[id].Release()
	delete(r.arenas, id)
	r.tree.Remove(id)
	r.book.Take(id)
}
