package desc

import (
	"testing"

	"kraal/api"
)

// TestP7_1KindsByName: each kind has the number of that name, and the table a row for each. Within the package, as no call here tells Same from Up.
func TestP7_1KindsByName(t *testing.T) {
	for name, kind := range map[string][3]int{"scalar": {scalar, api.Scalar, 0}, "counted": {counted, api.Counted, 1}, "same": {same, api.Same, 2}, "up": {up, api.Up, 3}} {
		if kind[0] != kind[2] || kind[1] != kind[2] {
			t.Errorf("%s: got %d, of package api %d, want %d", name, kind[0], kind[1], kind[2])
		}
	}
	if len(table) != 4 {
		t.Errorf("the table has %d rows", len(table))
	}
}
