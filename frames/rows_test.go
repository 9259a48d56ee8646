package frames_test

import "testing"

// call is a call at a pair, of a value that no other step puts.
type call struct {
	name string
	do   func(p *pair, v uint64)
}

// calls are few calls at small frames.
var calls = []call{
	{"Push(0)", func(p *pair, v uint64) { p.push(0) }},
	{"Push(1)", func(p *pair, v uint64) { p.push(1) }},
	{"Push(2)", func(p *pair, v uint64) { p.push(2) }},
	{"Pop", func(p *pair, v uint64) { p.pop() }},
	{"Set(0)", func(p *pair, v uint64) { p.set(0, v) }},
	{"Set(1)", func(p *pair, v uint64) { p.set(1, v) }},
}

// TestP17_1EveryRow: every row of six calls at small frames, held against the plain rows of words behind each call; then all is popped.
func TestP17_1EveryRow(t *testing.T) {
	const long = 6
	rows := 1
	for range long {
		rows *= len(calls)
	}
	for number := range rows {
		p := made(t)
		var done []string
		for step, rest := uint64(1), number; step <= long; step, rest = step+1, rest/len(calls) {
			c := calls[rest%len(calls)]
			c.do(p, step)
			done = append(done, c.name)
			p.wantSmall()
		}
		for range long + 1 {
			p.pop()
			p.wantSmall()
		}
		if t.Failed() {
			t.Fatalf("behind %v", done)
		}
	}
}

// wantSmall: Depth, and Get of the slots that a small frame can have, and of one more; and All, word by word.
func (p *pair) wantSmall() {
	p.Helper()
	if got, want := p.stack.Depth(), len(p.plain); got != want {
		p.Errorf("Depth: got %d, want %d", got, want)
	}
	all := p.stack.All()
	for _, words := range p.plain {
		for i, v := range words {
			if len(all) == 0 || all[0] != v {
				p.Fatalf("All: at slot %d: got %v, want %d", i, all, v)
			}
			all = all[1:]
		}
	}
	if len(all) > 0 {
		p.Errorf("All: %v is too many", all)
	}
	for i := range uint64(3) {
		p.get(i)
	}
}

// TestP17_1MixedRows: long mixed rows of Push, Pop, Get and Set, wrong ones among them, held against the plain rows of words behind each one. They rise to the top and fall to the bottom by turns.
func TestP17_1MixedRows(t *testing.T) {
	for seed := range 12 {
		m := mixed(seed)
		p := made(t)
		for step := range 2500 {
			rising := step/(40*(seed+1))%2 == 0
			mixedCall(&m, p, rising)
			p.wantPlain()
			if t.Failed() {
				t.Fatalf("row %d, step %d", seed, step)
			}
		}
		p.popAll()
	}
}

// mixedCall is any call; of pushes and pops those come more often that lead where the row goes.
func mixedCall(m *mixed, p *pair, rising bool) {
	p.Helper()
	switch what := m.next(10); {
	case what < 3 && rising, what == 3 && !rising:
		p.push(uint64(m.next(wide + 1)))
	case what < 3 && !rising, what == 3 && rising:
		p.pop()
	case what == 4:
		p.push(huge[m.next(len(huge))])
	case what == 5:
		p.get(anySlot(m, p))
	case what == 6: // what is there already
		i := anySlot(m, p)
		v, _ := p.old(i)
		p.set(i, v)
	default:
		p.set(anySlot(m, p), m.word())
	}
}

// anySlot is a slot's number of the top frame mostly, else one at its end, or behind it.
func anySlot(m *mixed, p *pair) uint64 {
	n := 0
	if len(p.plain) > 0 {
		n = len(p.plain[len(p.plain)-1])
	}
	switch m.next(10) {
	case 0:
		return huge[m.next(len(huge))]
	case 1:
		return uint64(n + m.next(3))
	}
	return uint64(m.next(max(n, 1)))
}
