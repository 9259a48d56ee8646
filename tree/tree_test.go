package tree_test

import (
	"math"
	"runtime/debug"
	"slices"
	"testing"

	"kraal/api"
	"kraal/tree"
)

// wrong are numbers that are never there in trees of small numbers.
var wrong = []int{
	0, -1, -2, -3, -1 << 32, -1<<32 + 1, math.MinInt, math.MinInt + 1, math.MinInt + 2,
	1 << 31, 1 << 32, 1<<32 + 1, 1<<32 + 2, 1 << 60, 1<<60 + 1, 1<<62 + 1, math.MaxInt - 1, math.MaxInt,
}

// link is one, and its parent.
type link struct{ id, parent int }

// plain is what a tree should be, told in the simplest way: those that are there, in the order in which they were put in.
type plain []link

func (p plain) find(id int) int {
	return slices.IndexFunc(p, func(l link) bool { return l.id == id })
}

func (p plain) has(id int) bool { return p.find(id) >= 0 }

func (p plain) parent(id int) int {
	if at := p.find(id); at >= 0 {
		return p[at].parent
	}
	return 0
}

func (p plain) kids(id int) []int {
	var kids []int
	for _, l := range p {
		if l.parent == id {
			kids = append(kids, l.id)
		}
	}
	slices.Sort(kids)
	return kids
}

// above: whether one is another one's parent, or above that.
func (p plain) above(high, low int) bool {
	parent := p.parent(low)
	return parent != 0 && (parent == high || p.above(high, parent))
}

func (p plain) within(id, of int) bool {
	return p.has(id) && p.has(of) && (id == of || p.above(of, id))
}

func (p plain) walk(below int) []int {
	var all []int
	for _, kid := range p.kids(below) {
		all = append(append(all, kid), p.walk(kid)...)
	}
	return all
}

// interval: from where it stands to behind the last one that it is above.
func (p plain) interval(id int) (api.Run, bool) {
	if !p.has(id) {
		return api.Run{}, false
	}
	walk := p.walk(0)
	from := slices.Index(walk, id)
	end := from + 1
	for at, other := range walk {
		if p.above(id, other) {
			end = at + 1
		}
	}
	return api.Run{From: from, N: end - from}, true
}

func (p *plain) add(id, parent int) api.Errno {
	if id < 1 || p.has(id) {
		return api.ErrArg
	}
	if parent != 0 && !p.has(parent) {
		return api.ErrNone
	}
	*p = append(*p, link{id, parent})
	return api.OK
}

func (p *plain) remove(id int) api.Errno {
	at := p.find(id)
	if at < 0 {
		return api.ErrNone
	}
	if len(p.kids(id)) > 0 {
		return api.ErrBusy
	}
	*p = slices.Delete(*p, at, at+1)
	return api.OK
}

func wantAdd(t *testing.T, x *tree.Tree, id, parent int, want api.Errno) {
	t.Helper()
	if e := x.Add(id, parent); e != want {
		t.Errorf("Add(%d, %d): got %v, want %v", id, parent, e, want)
	}
}

func wantRemove(t *testing.T, x *tree.Tree, id int, want api.Errno) {
	t.Helper()
	if e := x.Remove(id); e != want {
		t.Errorf("Remove(%d): got %v, want %v", id, e, want)
	}
}

func wantInterval(t *testing.T, x *tree.Tree, id int, want api.Run, wantOK bool) {
	t.Helper()
	if r, ok := x.Interval(id); r != want || ok != wantOK {
		t.Errorf("Interval(%d): got %v, %v, want %v, %v", id, r, ok, want, wantOK)
	}
}

// inside: whether one interval is within another one.
func inside(a, b api.Run) bool { return a.From >= b.From && a.From+a.N <= b.From+b.N }

// wantTree: all that asks answers as of the plain tree, for all of these numbers and those that are there.
func wantTree(t *testing.T, x *tree.Tree, p plain, asked ...int) {
	t.Helper()
	if got, want := x.Walk(), p.walk(0); !slices.Equal(got, want) {
		t.Errorf("Walk: got %v, want %v", got, want)
	}
	for _, l := range p {
		asked = append(asked, l.id)
	}
	for _, id := range asked {
		if got, want := x.Has(id), p.has(id); got != want {
			t.Errorf("Has(%d): got %v, want %v", id, got, want)
		}
		if got, want := x.Parent(id), p.parent(id); got != want {
			t.Errorf("Parent(%d): got %d, want %d", id, got, want)
		}
		if got, want := x.Kids(id), p.kids(id); !slices.Equal(got, want) {
			t.Errorf("Kids(%d): got %v, want %v", id, got, want)
		}
		want, ok := p.interval(id)
		wantInterval(t, x, id, want, ok)
		for _, of := range asked {
			if got, want := x.Within(id, of), p.within(id, of); got != want {
				t.Errorf("Within(%d, %d): got %v, want %v", id, of, got, want)
			}
		}
	}
}

// wantByIntervals: of all that are there, one is within another one just if its interval is.
func wantByIntervals(t *testing.T, x *tree.Tree) {
	t.Helper()
	walk := x.Walk()
	for at, id := range walk {
		a, ok := x.Interval(id)
		if !ok || a.From != at || a.N < 1 {
			t.Errorf("Interval(%d): got %v, %v, it stands at %d", id, a, ok, at)
		}
		for _, of := range walk {
			b, _ := x.Interval(of)
			if x.Within(id, of) != inside(a, b) {
				t.Errorf("Within(%d, %d): got %v, intervals %v and %v", id, of, x.Within(id, of), a, b)
			}
		}
	}
}

// grown is a tree of these links, put in in that order, and the plain tree beside it.
func grown(t *testing.T, links ...link) (*tree.Tree, plain) {
	t.Helper()
	x := tree.New()
	if x == nil {
		t.Fatal("New: got nil")
	}
	for _, l := range links {
		wantAdd(t, x, l.id, l.parent, api.OK)
	}
	return x, slices.Clone(links)
}

func TestP5_1Example(t *testing.T) {
	x, p := grown(t, link{1, 0}, link{2, 1}, link{3, 0})
	if got := x.Walk(); !slices.Equal(got, []int{1, 2, 3}) {
		t.Errorf("Walk: got %v", got)
	}
	if !x.Within(2, 1) || x.Within(1, 2) || x.Within(3, 1) {
		t.Error("Within")
	}
	wantTree(t, x, p, wrong...)
}

func TestP5_1TreeOfNone(t *testing.T) {
	x, p := grown(t)
	wantTree(t, x, p, append(wrong, 1, 2)...)
	for _, id := range append(wrong, 1, 2) {
		wantRemove(t, x, id, api.ErrNone)
	}
	wantTree(t, x, p, append(wrong, 1, 2)...)
	if len(x.Walk()) != 0 || len(x.Kids(0)) != 0 || x.Within(0, 0) || x.Has(0) {
		t.Error("there is one in a tree of none")
	}
}

// TestP5_1Written holds a tree of several without a parent against what the chapter says of it, written out by hand.
func TestP5_1Written(t *testing.T) {
	x, _ := grown(t, link{20, 0}, link{7, 20}, link{30, 20}, link{10, 0}, link{3, 30}, link{25, 30}, link{1, 7}, link{40, 0}, link{2, 40})
	if got, want := x.Walk(), []int{10, 20, 7, 1, 30, 3, 25, 40, 2}; !slices.Equal(got, want) {
		t.Errorf("Walk: got %v, want %v", got, want)
	}
	for id, want := range map[int][]int{0: {10, 20, 40}, 20: {7, 30}, 30: {3, 25}, 7: {1}, 40: {2}, 10: nil, 1: nil, 5: nil, -1: nil} {
		if got := x.Kids(id); !slices.Equal(got, want) {
			t.Errorf("Kids(%d): got %v, want %v", id, got, want)
		}
	}
	for id, want := range map[int]api.Run{10: {From: 0, N: 1}, 20: {From: 1, N: 6}, 7: {From: 2, N: 2}, 1: {From: 3, N: 1}, 30: {From: 4, N: 3}, 25: {From: 6, N: 1}, 40: {From: 7, N: 2}, 2: {From: 8, N: 1}} {
		wantInterval(t, x, id, want, true)
	}
	wantInterval(t, x, 5, api.Run{}, false)
	wantInterval(t, x, 0, api.Run{}, false)
	for id, want := range map[int]int{3: 30, 30: 20, 20: 0, 1: 7, 5: 0, -1: 0} {
		if got := x.Parent(id); got != want {
			t.Errorf("Parent(%d): got %d, want %d", id, got, want)
		}
	}
	wantByIntervals(t, x)
}

// TestP5_1AnyOrderOfAdds: whatever the order in which they were put in, and how often it is asked, the tree is the same.
func TestP5_1AnyOrderOfAdds(t *testing.T) {
	links := []link{{5, 0}, {2, 0}, {4, 5}, {1, 5}, {6, 4}, {3, 2}}
	trees := 0
	var put func(done plain, rest []link)
	put = func(done plain, rest []link) {
		if len(rest) == 0 {
			trees++
			x, p := grown(t, done...)
			wantTree(t, x, p, 0, 7)
			for range 3 {
				if got := x.Walk(); !slices.Equal(got, []int{2, 3, 5, 1, 4, 6}) {
					t.Fatalf("%v: Walk: got %v", done, got)
				}
			}
			return
		}
		for i, l := range rest {
			if l.parent == 0 || done.has(l.parent) {
				put(append(slices.Clone(done), l), slices.Delete(slices.Clone(rest), i, i+1))
			}
		}
	}
	put(nil, links)
	if trees != 45 {
		t.Errorf("%d orders", trees)
	}
}

func TestP5_1WithinAndInterval(t *testing.T) {
	x, p := grown(t, link{3, 0}, link{2, 3}, link{1, 2}, link{4, 3})
	wantInterval(t, x, 3, api.Run{From: 0, N: 4}, true) // above all
	wantInterval(t, x, 1, api.Run{From: 2, N: 1}, true) // above none
	wantInterval(t, x, 4, api.Run{From: 3, N: 1}, true)
	for _, id := range []int{1, 2, 3, 4} {
		if !x.Within(id, id) || !x.Within(id, 3) {
			t.Errorf("Within of %d", id)
		}
		for _, not := range append(wrong, 5) {
			if x.Within(id, not) || x.Within(not, id) || x.Within(not, not) {
				t.Errorf("Within of %d and %d", id, not)
			}
		}
	}
	wantTree(t, x, p, wrong...)
}

func TestP5_1WentAndCameAgain(t *testing.T) {
	x, p := grown(t, link{1, 0}, link{2, 1}, link{3, 0}, link{4, 2})
	both := func(e, want api.Errno) {
		t.Helper()
		if e != want {
			t.Errorf("plain: got %v, want %v", e, want)
		}
		wantTree(t, x, p, wrong...)
	}
	wantRemove(t, x, 2, api.ErrBusy)
	both(p.remove(2), api.ErrBusy)
	wantRemove(t, x, 4, api.OK)
	both(p.remove(4), api.OK)
	wantRemove(t, x, 4, api.ErrNone)
	both(p.remove(4), api.ErrNone)
	wantAdd(t, x, 5, 4, api.ErrNone) // below one that went
	wantRemove(t, x, 2, api.OK)
	both(p.remove(2), api.OK)
	wantAdd(t, x, 4, 0, api.OK) // again, above what it was below
	both(p.add(4, 0), api.OK)
	wantAdd(t, x, 2, 4, api.OK)
	both(p.add(2, 4), api.OK)
	if x.Parent(2) != 4 || x.Parent(4) != 0 || !x.Within(2, 4) || x.Within(2, 1) || !slices.Equal(x.Walk(), []int{1, 3, 4, 2}) {
		t.Errorf("got %v", x.Walk())
	}
	for _, id := range []int{2, 4, 1, 3} {
		wantRemove(t, x, id, api.OK)
		both(p.remove(id), api.OK)
	}
	if len(x.Walk()) != 0 {
		t.Errorf("got %v", x.Walk())
	}
}

func TestP5_1WrongAdds(t *testing.T) {
	x, p := grown(t, link{5, 0}, link{2, 5}, link{9, 2})
	below1 := []int{0, -1, -2, -5, -9, -1 << 32, -1<<32 + 5, math.MinInt, math.MinInt + 5}
	notThere := []int{1, 3, 8, 10, 1 << 31, 1 << 32, 1<<32 + 5, 1<<60 + 2, math.MaxInt}
	for _, id := range append(below1, 5, 2, 9) { // below 1, or there: ErrArg is first, whatever the parent
		for _, parent := range slices.Concat([]int{5, 2, 9}, below1, notThere) {
			wantAdd(t, x, id, parent, api.ErrArg)
		}
		wantTree(t, x, p, append(below1, notThere...)...)
	}
	for _, id := range notThere {
		for _, parent := range append(below1, notThere...) { // itself among them
			if parent != 0 {
				wantAdd(t, x, id, parent, api.ErrNone)
			}
		}
		wantTree(t, x, p, append(below1, notThere...)...)
	}
}

func TestP5_1WrongRemoves(t *testing.T) {
	x, p := grown(t, link{5, 0}, link{2, 5}, link{9, 2}, link{1, 5}, link{7, 0}, link{8, 7})
	for _, id := range append([]int{3, 4, 6, 10}, wrong...) {
		wantRemove(t, x, id, api.ErrNone)
		wantTree(t, x, p, wrong...)
	}
	for _, id := range []int{5, 2, 7} {
		wantRemove(t, x, id, api.ErrBusy)
		wantTree(t, x, p, wrong...)
	}
	wantRemove(t, x, 1, api.OK)
	wantRemove(t, x, 5, api.ErrBusy) // 2 is still below it
	wantRemove(t, x, 9, api.OK)
	wantRemove(t, x, 2, api.OK)
	wantRemove(t, x, 5, api.OK)
	if got := x.Walk(); !slices.Equal(got, []int{7, 8}) {
		t.Errorf("Walk: got %v", got)
	}
}

func TestP5_1HugeNumbers(t *testing.T) {
	x, p := grown(t, link{math.MaxInt, 0}, link{1 << 32, math.MaxInt}, link{1<<32 + 1, 0}, link{1, 1 << 32}, link{math.MaxInt - 1, 1}, link{1<<60 + 1, math.MaxInt}, link{2, 1<<60 + 1})
	if got, want := x.Walk(), []int{1<<32 + 1, math.MaxInt, 1 << 32, 1, math.MaxInt - 1, 1<<60 + 1, 2}; !slices.Equal(got, want) {
		t.Errorf("Walk: got %v, want %v", got, want)
	}
	wantTree(t, x, p, wrong...)
	wantByIntervals(t, x)
	wantRemove(t, x, math.MaxInt, api.ErrBusy)
	wantRemove(t, x, math.MaxInt-1, api.OK)
	wantTree(t, x, slices.Delete(p, 4, 5), wrong...)
}

func TestP5_1AskingChangesNothing(t *testing.T) {
	x, p := grown(t, link{1, 0}, link{2, 1})
	for id := range 20 {
		x.Has(id)
		x.Parent(id)
		x.Kids(id)
		x.Within(id, id+1)
		x.Within(1, id)
		x.Interval(id)
		x.Walk()
	}
	wantTree(t, x, p, 0, 3, 4, 19, 20)
	wantAdd(t, x, 3, 4, api.ErrNone)
	wantRemove(t, x, 3, api.ErrNone)
}

func TestP5_1AnswersAreNewMemory(t *testing.T) {
	x, p := grown(t, link{4, 0}, link{1, 4}, link{2, 4}, link{3, 0})
	for _, ask := range []func() []int{x.Walk, func() []int { return x.Kids(0) }, func() []int { return x.Kids(4) }, func() []int { return x.Kids(2) }} {
		first, second := ask(), ask()
		want := slices.Clone(second)
		for i := range first {
			first[i] = 99
		}
		_ = append(first, 98, 97)
		_ = append(first[:0], 96)
		wantTree(t, x, p, 96, 97, 98, 99)
		if !slices.Equal(second, want) {
			t.Error("two answers share memory", second)
		}
	}
	walk, kids := x.Walk(), x.Kids(4)
	wantRemove(t, x, 1, api.OK)
	wantAdd(t, x, 5, 4, api.OK)
	if !slices.Equal(walk, []int{3, 4, 1, 2}) || !slices.Equal(kids, []int{1, 2}) {
		t.Error("an answer changed later", walk, kids)
	}
}

func TestP5_1TreesAreApart(t *testing.T) {
	x, p := grown(t, link{1, 0}, link{2, 1})
	y, q := grown(t, link{2, 0}, link{1, 2}, link{3, 1})
	wantTree(t, x, p, 3)
	wantTree(t, y, q, 4)
	wantRemove(t, x, 2, api.OK)
	wantRemove(t, y, 2, api.ErrBusy)
	wantTree(t, x, p[:1], 2, 3)
	wantTree(t, y, q, 4)
}

// TestP5_1ManyBelowOne: put in falling, rising and mixed, they rise.
func TestP5_1ManyBelowOne(t *testing.T) {
	const n = 500
	for _, step := range []int{1, n - 1, 37} { // none shares a divisor with n: all come
		x, _ := grown(t, link{1000, 0})
		for i := range n {
			wantAdd(t, x, 1+i*step%n, 1000, api.OK)
		}
		walk, kids := x.Walk(), x.Kids(1000)
		if len(kids) != n || len(walk) != n+1 || walk[0] != 1000 || !slices.Equal(walk[1:], kids) {
			t.Fatalf("Walk: got %v, Kids %v", walk, kids)
		}
		for i := range n {
			if kids[i] != i+1 {
				t.Fatalf("Kids: got %v", kids)
			}
			wantInterval(t, x, i+1, api.Run{From: i + 1, N: 1}, true)
		}
		wantInterval(t, x, 1000, api.Run{From: 0, N: n + 1}, true)
		wantRemove(t, x, 1000, api.ErrBusy)
		for i := range n {
			wantRemove(t, x, n-i*step%n, api.OK)
		}
		wantRemove(t, x, 1000, api.OK)
	}
}

// smallStack: whoever goes far down by calling itself fails in such a test.
func smallStack(t *testing.T) {
	old := debug.SetMaxStack(1 << 20)
	t.Cleanup(func() { debug.SetMaxStack(old) })
}

// TestP5_1LongLine: each one below the one ahead; no line is too long for the stack.
func TestP5_1LongLine(t *testing.T) {
	smallStack(t)
	for _, n := range []int{1, 2, 998, 999, 1000, 1001, 1002, 2000, 2001, 2500, 200000} {
		x := tree.New()
		number := func(i int) int { return n - i } // the numbers fall while the line goes down
		for i := range n {
			parent := 0
			if i > 0 {
				parent = number(i - 1)
			}
			wantAdd(t, x, number(i), parent, api.OK)
		}
		walk := x.Walk()
		for i := range n {
			if len(walk) != n || walk[i] != number(i) {
				t.Fatalf("line of %d: the walk is not the line at %d", n, i)
			}
		}
		for _, i := range []int{0, 1, n / 2, n - 2, n - 1} {
			if i >= 0 && i < n {
				wantInterval(t, x, number(i), api.Run{From: i, N: n - i}, true)
				if !x.Within(1, number(i)) || !x.Within(number(i), n) || (i > 0 && x.Within(n, number(i))) {
					t.Errorf("line of %d: Within of %d", n, i)
				}
			}
		}
		wantRemove(t, x, 1, api.OK)
		if n > 2 {
			wantRemove(t, x, n, api.ErrBusy)
		}
		if got := len(x.Walk()); got != n-1 {
			t.Errorf("line of %d: %d are left", n, got)
		}
	}
}

// TestP5_1LongLineWithSides: a line, of which each one has kids beside it too, ahead of it and behind it in the walk.
func TestP5_1LongLineWithSides(t *testing.T) {
	smallStack(t)
	for _, n := range []int{3, 999, 1000, 1001, 1002, 2003, 3500} {
		x := tree.New()
		line := func(i int) int { return 10*n + i }
		var want []int
		parent := 0
		for i := range n {
			wantAdd(t, x, line(i), parent, api.OK)
			wantAdd(t, x, 20*n+2*i, parent, api.OK)
			wantAdd(t, x, 20*n+2*i+1, parent, api.OK)
			wantAdd(t, x, 1+i, parent, api.OK)
			want = append(want, 1+i, line(i))
			parent = line(i)
		}
		for i := n - 1; i >= 0; i-- { // beside the deepest one first
			want = append(want, 20*n+2*i, 20*n+2*i+1)
		}
		if got := x.Walk(); !slices.Equal(got, want) {
			t.Errorf("line of %d with sides: the walk isn't as said", n)
		}
		for _, i := range []int{0, 1, n / 2, n - 1} {
			wantInterval(t, x, line(i), api.Run{From: 2*i + 1, N: 1 + 4*(n-1-i)}, true)
		}
	}
}

// forests calls do with every tree of just these numbers, in an order in which they can be put in.
func forests(numbers []int, done plain, do func(plain)) {
	if len(done) == len(numbers) {
		do(done)
		return
	}
	id := numbers[len(done)]
	for _, parent := range append([]int{0}, numbers...) {
		if parent != id && !climbs(done, parent, id) {
			forests(numbers, append(slices.Clone(done), link{id, parent}), do)
		}
	}
}

// climbs: whether from one on, by the parents that are known yet, there is a way up to another one.
func climbs(known plain, from, to int) bool {
	for from != 0 && from != to {
		from = known.parent(from)
	}
	return from == to && to != 0
}

// planted puts a whole plain tree in, parents first.
func planted(t *testing.T, p plain) *tree.Tree {
	t.Helper()
	x := tree.New()
	for len(x.Walk()) < len(p) {
		for _, l := range p {
			if !x.Has(l.id) && (l.parent == 0 || x.Has(l.parent)) {
				wantAdd(t, x, l.id, l.parent, api.OK)
			}
		}
	}
	return x
}

// TestP5_2EveryTree holds every tree of up to five numbers against the plain one, and its intervals against who is within whom.
func TestP5_2EveryTree(t *testing.T) {
	for n := range 6 {
		trees := 0
		forests([]int{3, 1, 5, 2, 4}[:n], nil, func(p plain) {
			trees++
			x := planted(t, p)
			wantTree(t, x, p, 0, 6, -1)
			wantByIntervals(t, x)
			if t.Failed() {
				t.Fatalf("tree %v", p)
			}
		})
		if want := []int{1, 1, 3, 16, 125, 1296}[n]; trees != want {
			t.Errorf("of %d numbers: %d trees, want %d", n, trees, want)
		}
	}
}

// TestP5_2AfterRemoves: while all go again, those without kids first, intervals and who is within whom go together.
func TestP5_2AfterRemoves(t *testing.T) {
	forests([]int{3, 1, 4, 2}, nil, func(p plain) {
		x := planted(t, p)
		for len(p) > 0 {
			for _, l := range slices.Clone(p) {
				wantRemove(t, x, l.id, p.remove(l.id))
				wantTree(t, x, p, 0, l.id)
				wantByIntervals(t, x)
			}
			if t.Failed() {
				t.Fatalf("tree %v", p)
			}
		}
	})
}

// TestP5_1EveryOrder holds every row of four calls against the plain tree.
func TestP5_1EveryOrder(t *testing.T) {
	type call struct {
		remove     bool
		id, parent int
	}
	var calls []call
	for id := range 4 {
		calls = append(calls, call{remove: true, id: id})
		for parent := range 4 {
			if id > 0 || parent < 2 {
				calls = append(calls, call{id: id, parent: parent})
			}
		}
	}
	rows := len(calls) * len(calls) * len(calls) * len(calls)
	for row := range rows {
		x, p := tree.New(), plain(nil)
		for i, rest := 0, row; i < 4; i, rest = i+1, rest/len(calls) {
			c := calls[rest%len(calls)]
			if c.remove {
				wantRemove(t, x, c.id, p.remove(c.id))
			} else {
				wantAdd(t, x, c.id, c.parent, p.add(c.id, c.parent))
			}
		}
		wantTree(t, x, p, 0, 1, 2, 3)
		if t.Failed() {
			t.Fatalf("row %d", row)
		}
	}
}

// TestP5_1AnyOrder holds long mixed rows of calls against the plain tree.
func TestP5_1AnyOrder(t *testing.T) {
	state := uint64(1)
	next := func(below int) int {
		state = state*6364136223846793005 + 1442695040888963407
		return int(state>>33) % below
	}
	for _, most := range []int{6, 25} {
		x, p := tree.New(), plain(nil)
		for step := range 1500 {
			id, parent := next(most+2)-1, next(most+3)-2
			if next(5) < 2 {
				wantRemove(t, x, id, p.remove(id))
			} else {
				wantAdd(t, x, id, parent, p.add(id, parent))
			}
			wantTree(t, x, p, 0, -1, most+1)
			if step%50 == 0 {
				wantByIntervals(t, x)
			}
			if t.Failed() {
				t.Fatalf("most %d, step %d", most, step)
			}
		}
	}
}
