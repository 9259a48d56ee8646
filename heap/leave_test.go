package heap

import (
	"slices"
	"testing"

	"kraal/api"
)

// TestP19_1Leave: who leaves objects, at any of them, is handed on no further one. Within the package, as no call here leaves objects early.
func TestP19_1Leave(t *testing.T) {
	h, _ := New(api.Config{Pages: 4})
	h.Region(0)
	h.Region(1)
	h.Region(0)
	for _, region := range []uint64{3, 1, 3, 1, 1} {
		h.Alloc(region, api.Head{Array: true, N: 2})
	}
	for most := range 7 {
		var all, of []int
		for o := range h.objects() {
			if len(all) == most {
				break
			}
			all = append(all, o.At)
		}
		for o := range h.objectsOf(1) {
			if len(of) == most {
				break
			}
			of = append(of, o.At)
		}
		if want := []int{17, 20, 23, 1, 4}[:min(most, 5)]; !slices.Equal(all, want) {
			t.Errorf("all, left at %d: got %v, want %v", most, all, want)
		}
		if want := []int{17, 20, 23}[:min(most, 3)]; !slices.Equal(of, want) {
			t.Errorf("those of 1, left at %d: got %v, want %v", most, of, want)
		}
	}
}
