package heap

import (
	"slices"

	"kraal/api"
	"kraal/frames"
	"kraal/globals"
)

// slots are such as globals and the top frame have.
type slots interface {
	Get(i uint64) (uint64, api.Errno)
	Set(i, v uint64) (uint64, api.Errno)
}

// roots are all slots that are no region's. Both are named fields: embedded, they would lend the heap ways to put pointers past its counts.
type roots struct {
	globals *globals.Slots
	frames  *frames.Stack
}

// Global is a global.
func (r *roots) Global(i uint64) (uint64, api.Errno) { return r.globals.Get(i) }

// Push puts a frame on top.
func (r *roots) Push(n uint64) api.Errno { return r.frames.Push(n) }

// Slot is a slot of the top frame.
func (r *roots) Slot(i uint64) (uint64, api.Errno) { return r.frames.Get(i) }

// Roots are what is in all globals and frames.
func (r *roots) Roots() []uint64 { return slices.Concat(r.globals.All(), r.frames.All()) }
