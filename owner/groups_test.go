package owner

import (
	"maps"
	"slices"
	"testing"

	"kraal/api"
)

// wantGroups: just those groups are there.
func wantGroups(t *testing.T, m *Map, want ...int) {
	t.Helper()
	if got := slices.Sorted(maps.Keys(m.groups)); !slices.Equal(got, want) {
		t.Errorf("groups: got %v, want %v", got, want)
	}
}

// TestP6_1GroupsThatAreThere: a group is there as soon as one of its pages is somebody's, and isn't kept when none is.
func TestP6_1GroupsThatAreThere(t *testing.T) {
	m := New(130)
	wantGroups(t, m)
	for _, s := range []struct {
		from, n, of int
		want        []int
	}{
		{0, 130, 0, nil}, {5, 0, 1, nil},
		{40, 1, 1, []int{1}}, {31, 1, 1, []int{0, 1}}, {32, 1, 2, []int{0, 1}}, {129, 1, 2, []int{0, 1, 4}},
		{60, 10, 3, []int{0, 1, 2, 4}}, {131, 1, 3, []int{0, 1, 2, 4}}, {96, 2, -1, []int{0, 1, 2, 4}}, {96, 2, 0, []int{0, 1, 2, 4}},
		{31, 1, 0, []int{1, 2, 4}}, {33, 31, 0, []int{1, 2, 4}}, {32, 1, 0, []int{2, 4}}, {129, 1, 0, []int{2}},
		{0, 130, 7, []int{0, 1, 2, 3, 4}}, {0, 130, 0, nil},
	} {
		m.Set(api.Run{From: s.from, N: s.n}, s.of)
		wantGroups(t, m, s.want...)
		for page := -1; page <= 130; page++ {
			m.Page(page)
			m.Word(page * api.PageWords)
		}
		m.Of(1)
		m.Owned()
		wantGroups(t, m, s.want...) // to ask makes none
	}
}
