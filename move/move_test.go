package move_test

import (
	"maps"
	"math"
	"math/rand"
	"slices"
	"testing"

	"bargeman/api"
	"bargeman/move"
	"bargeman/op"
	"bargeman/tree"
)

// The document's limits, written out: the tests shall not follow a limit that is changed.
const (
	first    = 2
	ids      = 64
	maxCount = 1 << 40
)

// model is a tree by its nodes, on which the words of the chapter are written a second time.
type model map[int]api.Place

// of answers t's model.
func of(t []api.Place) model {
	m := model{}
	for _, p := range t {
		m[p.Node] = p
	}
	return m
}

// list answers the places by rising nodes.
func (m model) list() []api.Place {
	var t []api.Place
	for _, node := range slices.Sorted(maps.Keys(m)) {
		t = append(t, m[node])
	}
	return t
}

// above tells whether a is at or above b.
func (m model) above(a, b int) bool {
	if a == b {
		return true
	}
	p, is := m[b]
	return is && m.above(a, p.Up)
}

// do changes m by o, and answers what undoes it.
func (m model) do(o api.Op) api.Undo {
	if m.above(o.Node, o.Up) {
		return api.Undo{}
	}
	u := api.Undo{Did: true}
	u.Was, u.Had = m[o.Node]
	m[o.Node] = api.Place{Node: o.Node, Up: o.Up, Name: o.Name}
	return u
}

// back undoes what o changed.
func (m model) back(o api.Op, u api.Undo) {
	switch {
	case !u.Did:
	case u.Had:
		m[u.Was.Node] = u.Was
	default:
		delete(m, o.Node)
	}
}

// to answers the move of node to below up, with a name, as an operation that may be.
func to(node, up int, name string) api.Op {
	return api.Op{At: api.Stamp{C: 1, Dev: 1}, Inc: 1, Num: 1, Node: node, Up: up, Name: name}
}

// few is all trees of the nodes 2, 3 and 5, below these, the root, the trash, and 4, which has no place.
func few() [][]api.Place {
	l := [][]api.Place{nil}
	for _, node := range []int{2, 3, 5} {
		for _, t := range l {
			for up := range 6 {
				l = append(l, append(slices.Clone(t), api.Place{Node: node, Up: up, Name: "abcdef"[up : up+1]}))
			}
		}
	}
	return slices.DeleteFunc(l, func(t []api.Place) bool { return !tree.Right(t) })
}

// fewMoves is all moves between the nodes of few, and some that are at the bounds.
func fewMoves() []api.Op {
	nodes := []int{0, 1, 2, 3, 4, 5, 6, 62, 63}
	var l []api.Op
	for _, node := range nodes[first:] {
		for _, up := range nodes {
			if node != up {
				l = append(l, to(node, up, "new"), to(node, up, "abcdefghi"[up%9:up%9+1]))
			}
		}
	}
	return l
}

// all is every node that may have a place, each below up of it.
func all(up func(node int) int) []api.Place {
	var t []api.Place
	for node := first; node < ids; node++ {
		t = append(t, api.Place{Node: node, Up: up(node), Name: "x"})
	}
	return t
}

// chain is all nodes in one way, the last one at its top, below the root.
func chain() []api.Place {
	return all(func(node int) int { return (node + 1) % ids })
}

// chainDown is all nodes in one way, the first one at its top, below the trash.
func chainDown() []api.Place {
	return all(func(node int) int { return node - 1 })
}

// star is all nodes below the root.
func star() []api.Place {
	return all(func(int) int { return 0 })
}

// drawn is n moves that may be, between nodes below most; few nodes make many that do nothing.
func drawn(draw *rand.Rand, n, most int) []api.Op {
	names := []string{"a", "b", "!", "}", "0123456789abcdef"}
	var l []api.Op
	for len(l) < n {
		o := to(first+draw.Intn(most-first), draw.Intn(most), names[draw.Intn(len(names))])
		o.At = api.Stamp{C: len(l) + 1, Dev: draw.Intn(12)}
		o.Num = len(l) + 1
		if op.Right(o) {
			l = append(l, o)
		}
	}
	return l
}

// start answers a tree, and moves that may be asked of it.
type start struct {
	t []api.Place
	l []api.Op
}

// starts is such of all sizes, from none to all nodes.
func starts() []start {
	draw := rand.New(rand.NewSource(7))
	trees := append([][]api.Place{nil, {}, chain(), chainDown(), star()}, few()...)
	var l []start
	for i := range 1500 {
		most := first + 1 + i%(ids-first)
		l = append(l, start{trees[i%len(trees)], drawn(draw, i%97, most)})
	}
	return l
}

// one wants that Do of o and t tells what the words tell, and that Back undoes it.
func one(t *testing.T, x []api.Place, o api.Op) {
	t.Helper()
	m := of(x)
	want := m.do(o)
	y, u := move.Do(x, o)
	if u != want || !slices.Equal(y, m.list()) {
		t.Fatalf("Do(%v, %v) = %v, %v, not %v, %v", x, o, y, u, m.list(), want)
	}
	if !tree.Right(y) {
		t.Fatalf("Do(%v, %v) = %v: no tree", x, o, y)
	}
	if z := move.Back(y, o, u); !slices.Equal(z, x) {
		t.Fatalf("Back of Do(%v, %v) = %v", x, o, z)
	}
}

// P7.1, P7.2: the chapter's example, by hand.
func TestExample(t *testing.T) {
	l := []api.Op{to(2, 0, "a"), to(3, 2, "b"), to(2, 3, "c")}
	x, u := move.Fold(nil, l)
	if !slices.Equal(x, []api.Place{{Node: 2, Up: 0, Name: "a"}, {Node: 3, Up: 2, Name: "b"}}) {
		t.Errorf("Fold = %v", x)
	}
	if !slices.Equal(u, []api.Undo{{Did: true}, {Did: true}, {}}) {
		t.Errorf("Fold's undos = %v", u)
	}
}

// P7.1: Do, by hand: what is new, what moves, what is renamed, what stays, what goes to the trash, what would be below itself.
func TestDoOfKnown(t *testing.T) {
	two, three := api.Place{Node: 2, Up: 0, Name: "a"}, api.Place{Node: 3, Up: 2, Name: "b"}
	x := []api.Place{two, three}
	cases := []struct {
		what string
		o    api.Op
		want []api.Place
		u    api.Undo
	}{
		{"new, at the end", to(5, 3, "c"), []api.Place{two, three, {Node: 5, Up: 3, Name: "c"}}, api.Undo{Did: true}},
		{"new, the last one that may be", to(63, 62, "c"), []api.Place{two, three, {Node: 63, Up: 62, Name: "c"}}, api.Undo{Did: true}},
		{"moved", to(3, 0, "b"), []api.Place{two, {Node: 3, Up: 0, Name: "b"}}, api.Undo{Was: three, Had: true, Did: true}},
		{"moved and renamed, to one without a place", to(2, 4, "z"), []api.Place{{Node: 2, Up: 4, Name: "z"}, three}, api.Undo{Was: two, Had: true, Did: true}},
		{"renamed", to(3, 2, "z"), []api.Place{two, {Node: 3, Up: 2, Name: "z"}}, api.Undo{Was: three, Had: true, Did: true}},
		{"as it was", to(3, 2, "b"), x, api.Undo{Was: three, Had: true, Did: true}},
		{"by another's name", to(3, 0, "a"), []api.Place{two, {Node: 3, Up: 0, Name: "a"}}, api.Undo{Was: three, Had: true, Did: true}},
		{"put away, with what is below it", to(2, 1, "a"), []api.Place{{Node: 2, Up: 1, Name: "a"}, three}, api.Undo{Was: two, Had: true, Did: true}},
		{"below what is below it", to(2, 3, "a"), x, api.Undo{}},
	}
	for _, c := range cases {
		if y, u := move.Do(x, c.o); !slices.Equal(y, c.want) || u != c.u {
			t.Errorf("%s: Do = %v, %v", c.what, y, u)
		}
	}
	y, u := move.Do(nil, to(2, 5, "a"))
	if !slices.Equal(y, []api.Place{{Node: 2, Up: 5, Name: "a"}}) || u != (api.Undo{Did: true}) {
		t.Errorf("of the empty tree: Do = %v, %v", y, u)
	}
}

// P7.1, P7.2: Do and Back of all small trees and all moves in them.
func TestDoOfFew(t *testing.T) {
	nothing := 0
	for _, x := range few() {
		for _, o := range fewMoves() {
			one(t, x, o)
			if _, u := move.Do(x, o); !u.Did {
				nothing++
			}
		}
	}
	if nothing < 500 {
		t.Errorf("only %d that do nothing", nothing)
	}
}

// P7.1, P7.2: Do and Back where the way up is as long as may be, of every node to below every one.
func TestDoOfChains(t *testing.T) {
	for node := first; node < ids; node++ {
		for up := range ids {
			if node == up {
				continue
			}
			o := to(node, up, "y")
			one(t, star(), o)
			one(t, chain(), o)
			one(t, chainDown(), o)
			if _, u := move.Do(chain(), o); u.Did != (up < first || node < up) {
				t.Errorf("the chain: %d to below %d: Did %v", node, up, u.Did)
			}
			if _, u := move.Do(chainDown(), o); u.Did != (up < node) {
				t.Errorf("the chain down: %d to below %d: Did %v", node, up, u.Did)
			}
			if _, u := move.Do(star(), o); !u.Did || !u.Had || u.Was != (api.Place{Node: node, Up: 0, Name: "x"}) {
				t.Errorf("the star: %d to below %d: %v", node, up, u)
			}
		}
	}
}

// P7.1: of a move only Node, Up and Name count here, not when it was, nor whose it is.
func TestMomentsDoNotCount(t *testing.T) {
	ats := []api.Stamp{{C: 1, Dev: 0}, {C: 7, Dev: 11}, {C: maxCount, Dev: 3}}
	for _, x := range few() {
		for _, o := range fewMoves()[:40] {
			want, wantUndo := move.Do(x, o)
			for i, at := range ats {
				o.At, o.Inc, o.Num = at, 1+i*(maxCount-1)/2, maxCount-i
				if y, u := move.Do(x, o); !slices.Equal(y, want) || u != wantUndo {
					t.Fatalf("Do(%v, %v) = %v, %v", x, o, y, u)
				}
				if z := move.Back(want, o, wantUndo); !slices.Equal(z, x) {
					t.Fatalf("Back(%v, %v, %v) = %v", want, o, wantUndo, z)
				}
			}
		}
	}
}

// P7.1: Back, by hand: without Did nothing is undone, whatever else stands there; without Had Was is of no account.
func TestBackOfKnown(t *testing.T) {
	two, three := api.Place{Node: 2, Up: 0, Name: "a"}, api.Place{Node: 3, Up: 2, Name: "b"}
	was, other := api.Place{Node: 3, Up: 1, Name: "w"}, api.Place{Node: 9, Up: 3, Name: "o"}
	x := []api.Place{two, three}
	cases := []struct {
		what string
		node int
		u    api.Undo
		want []api.Place
	}{
		{"zero", 3, api.Undo{}, x},
		{"zero, of a node without a place", 9, api.Undo{}, x},
		{"not done, but Had and Was", 3, api.Undo{Was: was, Had: true}, x},
		{"not done, but Was", 3, api.Undo{Was: was}, x},
		{"new", 3, api.Undo{Did: true}, []api.Place{two}},
		{"new, the first one", 2, api.Undo{Did: true}, []api.Place{three}},
		{"new, and Was", 3, api.Undo{Was: was, Did: true}, []api.Place{two}},
		{"new, without a place", 9, api.Undo{Did: true}, x},
		{"had", 3, api.Undo{Was: was, Had: true, Did: true}, []api.Place{two, was}},
		{"had, as it is", 3, api.Undo{Was: three, Had: true, Did: true}, x},
		{"had, without a place now", 9, api.Undo{Was: other, Had: true, Did: true}, []api.Place{two, three, other}},
		{"had, Was of another node", 2, api.Undo{Was: was, Had: true, Did: true}, []api.Place{two, was}},
		{"had, Was of another one without a place", 2, api.Undo{Was: other, Had: true, Did: true}, []api.Place{two, three, other}},
	}
	for _, c := range cases {
		if y := move.Back(x, to(c.node, 1, "z"), c.u); !slices.Equal(y, c.want) {
			t.Errorf("%s: Back = %v", c.what, y)
		}
	}
	for _, u := range []api.Undo{{}, {Did: true}, {Was: was, Had: true}} {
		if y := move.Back(nil, to(3, 1, "z"), u); len(y) != 0 {
			t.Errorf("of the empty tree: Back with %v = %v", u, y)
		}
	}
}

// undos is such as Do makes of node, and raw ones.
func undos(node int) []api.Undo {
	var l []api.Undo
	for _, was := range []api.Place{{}, {Node: node, Up: 1, Name: "w"}, {Node: 63, Up: 2, Name: "w"}, {Node: -1, Up: -1, Name: "/"}, {Node: math.MaxInt, Up: math.MinInt}} {
		for _, had := range []bool{false, true} {
			for _, did := range []bool{false, true} {
				l = append(l, api.Undo{Was: was, Had: had, Did: did})
			}
		}
	}
	return l
}

// P7.1: Back of all small trees and of any undo, be it one of Do's or raw.
func TestBackOfFew(t *testing.T) {
	for _, x := range few() {
		for node := first; node < 7; node++ {
			for _, u := range undos(node) {
				o, m := to(node, 1, "z"), of(x)
				m.back(o, u)
				if y := move.Back(x, o, u); !slices.Equal(y, m.list()) {
					t.Fatalf("Back(%v, %v, %v) = %v, not %v", x, o, u, y, m.list())
				}
			}
		}
	}
}

// P7.1: Fold is Do of each, one by one, in their order; its undos are theirs.
func TestFold(t *testing.T) {
	nothing, moved, made := 0, 0, 0
	for _, s := range starts() {
		m := of(s.t)
		var want []api.Undo
		for _, o := range s.l {
			u := m.do(o)
			want = append(want, u)
			switch {
			case !u.Did:
				nothing++
			case u.Had:
				moved++
			default:
				made++
			}
		}
		x, u := move.Fold(s.t, s.l)
		if !slices.Equal(x, m.list()) || !slices.Equal(u, want) {
			t.Fatalf("Fold(%v, %v) = %v, %v", s.t, s.l, x, u)
		}
	}
	if min(nothing, moved, made) < 1000 {
		t.Errorf("%d did nothing, %d moved, %d were new", nothing, moved, made)
	}
}

// P7.1: Fold of two lists, one behind the other, is Fold of the one that they make.
func TestFoldInParts(t *testing.T) {
	for i, s := range starts() {
		cut := 0
		if len(s.l) > 0 {
			cut = i % len(s.l)
		}
		x, u := move.Fold(s.t, s.l[:cut])
		y, v := move.Fold(x, s.l[cut:])
		z, w := move.Fold(s.t, s.l)
		if !slices.Equal(y, z) || !slices.Equal(append(u, v...), w) {
			t.Fatalf("Fold(%v, %v) by parts, cut at %d = %v, not %v", s.t, s.l, cut, y, z)
		}
	}
}

// P7.1: Fold of no moves is the tree, and no undos.
func TestFoldOfNone(t *testing.T) {
	for _, x := range few() {
		for _, l := range [][]api.Op{nil, {}} {
			if y, u := move.Fold(x, l); !slices.Equal(x, y) || len(u) != 0 {
				t.Fatalf("Fold(%v) of none = %v, %v", x, y, u)
			}
		}
	}
}

// P7.1: the order counts: of two moves that would go round the first one holds.
func TestFoldOrder(t *testing.T) {
	x := []api.Place{{Node: 2, Up: 0, Name: "a"}, {Node: 3, Up: 0, Name: "b"}}
	a, b := to(2, 3, "c"), to(3, 2, "d")
	y, u := move.Fold(x, []api.Op{a, b})
	if !slices.Equal(y, []api.Place{{Node: 2, Up: 3, Name: "c"}, x[1]}) || !slices.Equal(u, []api.Undo{{Was: x[0], Had: true, Did: true}, {}}) {
		t.Errorf("Fold = %v, %v", y, u)
	}
	y, u = move.Fold(x, []api.Op{b, a})
	if !slices.Equal(y, []api.Place{x[0], {Node: 3, Up: 2, Name: "d"}}) || !slices.Equal(u, []api.Undo{{Was: x[1], Had: true, Did: true}, {}}) {
		t.Errorf("Fold, turned = %v, %v", y, u)
	}
}

// P7.1: Fold of far more moves than a tree has places.
func TestFoldOfMany(t *testing.T) {
	l := drawn(rand.New(rand.NewSource(7)), 100000, ids)
	m := of(chain())
	for _, o := range l {
		m.do(o)
	}
	x, u := move.Fold(chain(), l)
	if !slices.Equal(x, m.list()) || len(u) != len(l) || !tree.Right(x) {
		t.Errorf("%d undos, %v", len(u), x)
	}
}

// P7.2: a tree stays a tree, and what is done is undone, step by step back to where it began.
func TestThereAndBack(t *testing.T) {
	for _, s := range starts() {
		trees := [][]api.Place{s.t}
		for i := range s.l {
			x, _ := move.Fold(s.t, s.l[:i+1])
			if !tree.Right(x) {
				t.Fatalf("Fold(%v, %v) = %v: no tree", s.t, s.l[:i+1], x)
			}
			trees = append(trees, x)
		}
		x, u := move.Fold(s.t, s.l)
		for i := len(s.l) - 1; i >= 0; i-- {
			x = move.Back(x, s.l[i], u[i])
			if !slices.Equal(x, trees[i]) {
				t.Fatalf("Fold(%v, %v), back to %d = %v, not %v", s.t, s.l, i, x, trees[i])
			}
		}
	}
}

// P7.2: a move that comes late: those behind it are undone, and done again, as if it had come in time.
func TestLate(t *testing.T) {
	draw := rand.New(rand.NewSource(7))
	for _, s := range starts() {
		if len(s.l) == 0 {
			continue
		}
		late := draw.Intn(len(s.l))
		l := slices.Delete(slices.Clone(s.l), late, late+1)
		x, u := move.Fold(s.t, l)
		for i := len(l) - 1; i >= late; i-- {
			x = move.Back(x, l[i], u[i])
		}
		x, _ = move.Fold(x, s.l[late:])
		if want, _ := move.Fold(s.t, s.l); !slices.Equal(x, want) {
			t.Fatalf("Fold(%v, %v), %d late = %v, not %v", s.t, s.l, late, x, want)
		}
	}
}

// roomy is l with spare room that holds mark; whole tells whether all of it still is as it was.
func roomy[E comparable](l []E, mark E) (list []E, whole func() bool) {
	all := append(slices.Clone(l), mark, mark, mark)
	was := slices.Clone(all)
	return all[:len(l)], func() bool { return slices.Equal(all, was) }
}

// spoil writes mark over all of l, and behind it.
func spoil[E any](l []E, mark E) {
	for i := range l {
		l[i] = mark
	}
	_ = append(l, mark, mark)
}

// mark is what no tree has.
var mark = api.Place{Node: -7, Up: -8, Name: "mark"}

// Rule 3: what is handed in stays, its spare room too; an answer is new memory, also where nothing was done.
func TestNothingIsChanged(t *testing.T) {
	for _, x := range few() {
		for _, o := range fewMoves()[:60] {
			l, whole := roomy(x, mark)
			y, u := move.Do(l, o)
			if !whole() {
				t.Fatalf("Do(%v, %v) changed what was handed in", x, o)
			}
			done, wholeDone := roomy(y, mark)
			backs := [][]api.Place{move.Back(done, o, u), move.Back(done, o, api.Undo{}), move.Back(done, o, api.Undo{Did: true})}
			for _, z := range append(backs, y) {
				spoil(z, mark)
			}
			if !whole() || !wholeDone() {
				t.Fatalf("Do and Back of %v, %v: an answer is no new memory", x, o)
			}
		}
	}
}

// Rule 3: the same of Fold, and of its moves.
func TestFoldChangesNothing(t *testing.T) {
	for _, s := range starts() {
		x, wholeTree := roomy(s.t, mark)
		for _, moves := range [][]api.Op{s.l, nil} {
			l, wholeMoves := roomy(moves, api.Op{Node: -7, Name: "mark"})
			y, u := move.Fold(x, l)
			spoil(y, mark)
			spoil(u, api.Undo{Was: mark, Had: true, Did: true})
			if !wholeTree() || !wholeMoves() {
				t.Fatalf("Fold(%v, %v) changed what was handed in, or answers no new memory", s.t, moves)
			}
		}
	}
}

// Rule 3: an answer stays, whatever is made of it.
func TestAnswersStay(t *testing.T) {
	a, _ := move.Do(star()[:5], to(20, 0, "a"))
	b, u := move.Do(a, to(30, 20, "b"))
	c, v := move.Do(a, to(20, 3, "c"))
	d := move.Back(b, to(30, 20, "b"), u)
	e := move.Back(c, to(20, 3, "c"), v)
	if len(a) != 6 || a[5] != (api.Place{Node: 20, Up: 0, Name: "a"}) || len(b) != 7 || b[6].Node != 30 || len(c) != 6 || c[5].Up != 3 {
		t.Errorf("%v, %v, %v", a, b, c)
	}
	if !slices.Equal(d, a) || !slices.Equal(e, a) {
		t.Errorf("%v, %v", d, e)
	}
}

// P1: each call ends, and none panics, also of what is no tree, and of moves that may not be.
func TestAnythingEnds(t *testing.T) {
	nums := []int{math.MinInt, -1, 0, 1, 2, 3, 63, 64, math.MaxInt}
	lists := [][]api.Place{
		nil,
		{{Node: 2, Up: 2, Name: "a"}},
		{{Node: 2, Up: 3, Name: "a"}, {Node: 3, Up: 2, Name: "b"}},
		{{Node: 3, Up: 2, Name: "a"}, {Node: 2, Up: 63, Name: ""}, {Node: 63, Up: 3, Name: "/"}},
		{{Node: math.MaxInt, Up: math.MinInt}, {Node: math.MinInt, Up: math.MaxInt}},
		{{}, {}, {}},
		slices.Repeat([]api.Place{{Node: 2, Up: 3}, {Node: 3, Up: 2}}, 1000),
	}
	var l []api.Op
	for _, node := range nums {
		for _, up := range nums {
			l = append(l, api.Op{Node: node, Up: up, Name: "\xff"})
		}
	}
	for _, x := range lists {
		for i, o := range l {
			y, u := move.Do(x, o)
			move.Back(y, o, u)
			move.Back(x, o, undos(3)[i%len(undos(3))])
		}
		if _, u := move.Fold(x, l); len(u) != len(l) {
			t.Errorf("Fold(%.100v): %d undos", x, len(u))
		}
	}
}
