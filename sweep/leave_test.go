package sweep

import (
	"slices"
	"testing"

	"kraal/api"
)

// handedOn are the pointers of the objects, up to so many.
func handedOn(l []api.Object, most int) []pointer {
	var got []pointer
	for _, p := range pointers(l) {
		if len(got) == most {
			break
		}
		got = append(got, p)
	}
	return got
}

// TestP18_1Leave: who leaves pointers, or places, at any of them, is handed on no further one. Within the package, as no call here leaves pointers early.
func TestP18_1Leave(t *testing.T) {
	l := []api.Object{
		{At: 5, Region: 1, Kinds: []int{1, 0, 2, 1}, Values: []uint64{9, 9, 5}},
		{At: 0, Region: 2, Kinds: []int{1}, Values: []uint64{7, 8}},
		{At: 9, Region: 2, Kinds: []int{3, 4, 1}, Values: []uint64{6, 5, 0}},
	}
	all := []pointer{{1, 9}, {2, 5}, {1, 7}, {3, 6}, {1, 0}}
	for most := range len(all) + 2 {
		if got, want := handedOn(l, most), all[:min(most, len(all))]; !slices.Equal(got, want) {
			t.Errorf("left at %d: got %v, want %v", most, got, want)
		}
	}
	for most := range 4 {
		var got []uint64
		for at := range begins(l) {
			if len(got) == most {
				break
			}
			got = append(got, at)
		}
		if want := []uint64{5, 9}[:min(most, 2)]; !slices.Equal(got, want) {
			t.Errorf("left at %d: got %v, want %v", most, got, want)
		}
	}
}
