package annot_test

import (
	"math"
	"slices"
	"testing"

	"kraal/annot"
	"kraal/api"
	"kraal/tree"
)

// allKinds are the kinds of pointers, the scalar, and some that are none.
var allKinds = []int{-1, api.Scalar, api.Counted, api.Same, api.Up, 4}

// wrongKinds are numbers that aren't of pointers, and, cut short or wrapped round, some that are.
var wrongKinds = []int{
	api.Scalar, -1, -2, -3, -4, -253, -255, 4, 5, 6, 7, 8, 255, 1<<8 + 1, 1<<8 + 2, 1<<16 + 3, 1 << 31, 1 << 32, 1<<32 + 1, 1<<32 + 2, 1<<32 + 3,
	-1<<32 + 1, -1<<32 + 2, math.MinInt, math.MinInt + 1, math.MinInt + 2, math.MinInt + 3, 1<<62 + 1, math.MaxInt - 1, math.MaxInt,
}

// wrong are numbers that are never there in trees of small numbers, and, cut short or wrapped round, some that are; 0 isn't among them.
var wrong = []int{
	-1, -2, -3, -4, -5, -256 + 1, -1 << 31, -1 << 32, -1<<32 + 1, -1<<32 + 2, math.MinInt, math.MinInt + 1, math.MinInt + 2, math.MinInt + 3,
	1<<8 + 1, 1<<16 + 2, 1<<31 - 1, 1 << 31, 1 << 32, 1<<32 + 1, 1<<32 + 2, 1<<32 + 3, 1<<60 + 1, 1<<62 + 2, math.MaxInt - 1, math.MaxInt,
}

// link is one, and its parent.
type link struct{ id, parent int }

// plain is what a tree should be, told in the simplest way.
type plain []link

func (p plain) find(id int) int {
	return slices.IndexFunc(p, func(l link) bool { return l.id == id })
}

func (p plain) has(id int) bool { return p.find(id) >= 0 }

// all are those that are there, rising.
func (p plain) all() []int {
	var all []int
	for _, l := range p {
		all = append(all, l.id)
	}
	slices.Sort(all)
	return all
}

// ups are one itself, its parent, that one's parent and so on.
func (p plain) ups(id int) []int {
	var ups []int
	for id != 0 {
		ups = append(ups, id)
		id = p[p.find(id)].parent
	}
	return ups
}

// targets are the regions that a field may point to, rising.
func (p plain) targets(kind, holder int) []int {
	if !p.has(holder) {
		return nil
	}
	var targets []int
	switch kind {
	case 1:
		targets = p.all()
	case 2:
		targets = []int{holder}
	case 3:
		targets = p.ups(holder)
	}
	slices.Sort(targets)
	return targets
}

func (p plain) check(kind, holder, target int) api.Errno {
	if kind != 1 && kind != 2 && kind != 3 {
		return api.ErrKind
	}
	if target == 0 {
		return api.OK
	}
	if !p.has(holder) || !p.has(target) {
		return api.ErrNone
	}
	if !slices.Contains(p.targets(kind, holder), target) {
		return api.ErrAnnot
	}
	return api.OK
}

// land is a tree, and the plain one beside it.
type land struct {
	*testing.T
	tree  *tree.Tree
	plain plain
}

// grown is a land of these, put in in that order.
func grown(t *testing.T, links ...link) *land {
	t.Helper()
	y := &land{T: t, tree: tree.New()}
	for _, l := range links {
		y.add(l.id, l.parent)
	}
	return y
}

// line is a land of so many, each one below the one ahead, by that rule of their numbers.
func line(t *testing.T, n int, number func(i int) int) *land {
	t.Helper()
	var links []link
	parent := 0
	for i := range n {
		links = append(links, link{number(i), parent})
		parent = number(i)
	}
	return grown(t, links...)
}

func (y *land) add(id, parent int) {
	y.Helper()
	if e := y.tree.Add(id, parent); e != api.OK {
		y.Fatalf("tree: Add(%d, %d): got %v", id, parent, e)
	}
	y.plain = append(y.plain, link{id, parent})
}

// remove takes one out that has no kids.
func (y *land) remove(id int) {
	y.Helper()
	if e := y.tree.Remove(id); e != api.OK {
		y.Fatalf("tree: Remove(%d): got %v", id, e)
	}
	at := y.plain.find(id)
	y.plain = slices.Delete(y.plain, at, at+1)
}

// leaf: whether it is no one's parent.
func (y *land) leaf(id int) bool {
	return !slices.ContainsFunc(y.plain, func(l link) bool { return l.parent == id })
}

func (y *land) wantCheck(kind, holder, target int, want api.Errno) {
	y.Helper()
	if e := annot.Check(y.tree, kind, holder, target); e != want {
		y.Errorf("of %v: Check(%d, %d, %d): got %v, want %v", y.plain, kind, holder, target, e, want)
	}
}

func (y *land) wantTargets(kind, holder int, want ...int) {
	y.Helper()
	if l := annot.Targets(y.tree, kind, holder); !slices.Equal(l, want) {
		y.Errorf("of %v: Targets(%d, %d): got %v, want %v", y.plain, kind, holder, l, want)
	}
}

// wantPlain: all kinds, with all that are there and these as holders and as targets, are as the plain tree says.
func (y *land) wantPlain(asked ...int) {
	y.Helper()
	asked = slices.Concat([]int{0}, y.plain.all(), asked)
	for _, kind := range allKinds {
		for _, holder := range asked {
			for _, target := range asked {
				y.wantCheck(kind, holder, target, y.plain.check(kind, holder, target))
			}
			y.wantTargets(kind, holder, y.plain.targets(kind, holder)...)
		}
	}
}

// facts are all that a tree answers, of these numbers: lists with -1 behind each.
func facts(x *tree.Tree, asked []int) []int {
	facts := append(x.Walk(), -1)
	for _, id := range asked {
		facts = append(facts, x.Parent(id))
		facts = append(append(facts, x.Kids(id)...), -1)
		r, _ := x.Interval(id)
		facts = append(facts, r.From, r.N)
		for _, of := range asked {
			if x.Within(id, of) {
				facts = append(facts, of)
			}
		}
		facts = append(facts, -1)
	}
	return facts
}

func wantCounts(t *testing.T, kind, holder, target int, want bool) {
	t.Helper()
	if got := annot.Counts(kind, holder, target); got != want {
		t.Errorf("Counts(%d, %d, %d): got %v, want %v", kind, holder, target, got, want)
	}
}

// forests calls do with every tree of just these numbers.
func forests(t *testing.T, numbers []int, do func(*land)) {
	t.Helper()
	choice := append([]int{0}, numbers...)
	rows := 1
	for range numbers {
		rows *= len(choice)
	}
	for row := range rows {
		var links []link
		for rest := row; len(links) < len(numbers); rest /= len(choice) {
			links = append(links, link{numbers[len(links)], choice[rest%len(choice)]})
		}
		if ordered, ok := parentsFirst(links); ok {
			do(grown(t, ordered...))
		}
	}
}

// parentsFirst is the same links in an order in which they can be put in, if there is one.
func parentsFirst(links []link) (plain, bool) {
	var done plain
	for range links {
		for _, l := range links {
			if !done.has(l.id) && (l.parent == 0 || done.has(l.parent)) {
				done = append(done, l)
			}
		}
	}
	return done, len(done) == len(links)
}

// mixed is a row of numbers that come in no order that is plain to see, always the same.
type mixed uint64

// next is the next number, below that one.
func (m *mixed) next(under int) int {
	*m = *m*6364136223846793005 + 1442695040888963407
	return int(uint64(*m) >> 33 % uint64(under))
}
