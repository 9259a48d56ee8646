package globals_test

import "testing"

// set is a call of Set.
type set struct{ i, v uint64 }

// TestP16_1EveryRow: every row of five calls at two slots and at the first number that is none, held against the plain row of words behind each call.
func TestP16_1EveryRow(t *testing.T) {
	const long = 5
	calls := []set{{0, 0}, {0, 1}, {0, 2}, {1, 0}, {1, 1}, {1, 3}, {2, 4}}
	rows := 1
	for range long {
		rows *= len(calls)
	}
	for row := range rows {
		p := made(t, 2)
		rest := row
		var done []set
		for range long {
			c := calls[rest%len(calls)]
			rest /= len(calls)
			p.set(c.i, c.v)
			done = append(done, c)
			p.wantPlain()
		}
		if t.Failed() {
			t.Fatalf("behind %v", done)
		}
	}
}

// TestP16_1MixedRows: long mixed rows of Set and Get, wrong ones among them, held against the plain row of words behind each one.
func TestP16_1MixedRows(t *testing.T) {
	for seed, n := range []int{0, 1, 2, 3, 5, 8, 16, 31, 32, 33, 62, 63, 64} {
		m := mixed(seed)
		p := made(t, n)
		for step := range 3000 {
			i := anySlot(&m, n)
			switch m.next(8) {
			case 0:
				want, e := p.old(i)
				p.wantGet(i, want, e)
			case 1: // what is there already
				v, _ := p.old(i)
				p.set(i, v)
			case 2:
				p.set(i, 0)
			default:
				p.set(i, m.word())
			}
			p.wantPlain()
			if t.Failed() {
				t.Fatalf("of %d, step %d: slot %d", n, step, i)
			}
		}
	}
}

// anySlot is a slot's number mostly, else one at the end, or behind it.
func anySlot(m *mixed, n int) uint64 {
	switch m.next(10) {
	case 0:
		return huge[m.next(len(huge))]
	case 1:
		return uint64(n + m.next(3))
	}
	return uint64(m.next(max(n, 1)))
}
