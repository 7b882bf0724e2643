package tree_test

import (
	"encoding/binary"
	"math"
	"math/rand"
	"regexp"
	"slices"
	"strings"
	"testing"

	"bargeman/api"
	"bargeman/code"
	"bargeman/tree"
)

// The document's limits, written out: the tests shall not follow a limit that is changed.
const (
	first     = 2
	ids       = 64
	mostBytes = 16
)

// form is the names, as layer 4's words tell them.
var form = regexp.MustCompile(`\A[!-.0-}]{1,16}\z`)

// ups answers each place's Up, by its node.
func ups(t []api.Place) map[int]int {
	m := map[int]int{}
	for _, p := range t {
		m[p.Node] = p.Up
	}
	return m
}

// above is whether a is at or above b, as the document tells it, be it a tree or not: seen is the nodes of the way so far.
func above(up map[int]int, a, b int, seen map[int]bool) bool {
	if a == b {
		return true
	}
	next, is := up[b]
	if !is || seen[b] {
		return false
	}
	seen[b] = true
	return above(up, a, next, seen)
}

// slow is whether t is a tree, as the document tells it.
func slow(t []api.Place) bool {
	up := ups(t)
	for i, p := range t {
		if p.Node < first || p.Node >= ids || p.Up < 0 || p.Up >= ids || !form.MatchString(p.Name) {
			return false
		}
		for _, q := range t[:i] {
			if q.Node >= p.Node {
				return false
			}
		}
		if above(up, p.Node, p.Up, map[int]bool{}) {
			return false
		}
	}
	return true
}

// bytes is t's, as the document tells them, whatever t is.
func bytes(t []api.Place) string {
	b := binary.AppendVarint(nil, int64(len(t)))
	for _, p := range t {
		b = binary.AppendVarint(b, int64(p.Node))
		b = binary.AppendVarint(b, int64(p.Up))
		b = binary.AppendVarint(b, int64(len(p.Name)))
		b = append(b, p.Name...)
	}
	return string(b)
}

// edges is numbers around all bounds, and around those at which a smaller kind of number would wrap.
func edges() []int {
	l := []int{math.MinInt, math.MinInt + 1, math.MinInt + 3, math.MaxInt - 1, math.MaxInt}
	for n := -3; n < 70; n++ {
		l = append(l, n)
	}
	for _, n := range []int{127, 128, 255, 256, 257, 258, 1 << 16, 1 << 31, 1 << 32, 1 << 62} {
		l = append(l, n-1, n, n+1, n+5, -n-1, -n, -n+1, -n+5)
	}
	return l
}

// names is such, of each length.
func names() []string {
	l := []string{"a", "A", "0", "12", "!", "}", ".", "a.txt", "a|b"}
	for n := 1; n <= mostBytes; n++ {
		l = append(l, strings.Repeat("x", n), "0123456789abcdef"[:n])
	}
	return l
}

// noNames is what no name is.
func noNames() []string {
	l := []string{"", " ", "a b", "/", "a/b", "~", "a~1", "a~12", "é", "\x00", "a\n", "\x7f", "\xff"}
	for _, n := range []int{mostBytes + 1, mostBytes + 2, 63, 64, 255, 256, 257, 272, 1 << 16, 1<<16 + 1} {
		l = append(l, strings.Repeat("x", n))
	}
	return l
}

// example is the chapter's.
func example() []api.Place {
	return []api.Place{{Node: 3, Up: 5, Name: "b"}, {Node: 5, Up: 0, Name: "a"}}
}

// all is every node that may have a place, each below up of it.
func all(up func(node int) int) []api.Place {
	l := names()
	var t []api.Place
	for node := first; node < ids; node++ {
		t = append(t, api.Place{Node: node, Up: up(node), Name: l[node%len(l)]})
	}
	return t
}

// chain is all nodes in one way, the last one at its top.
func chain() []api.Place {
	return all(func(node int) int { return (node + 1) % ids })
}

// chainDown is all nodes in one way, the first one at its top.
func chainDown() []api.Place {
	return all(func(node int) int { return node - 1 })
}

// star is all nodes below the root.
func star() []api.Place {
	return all(func(int) int { return 0 })
}

// few is all lists of few nodes with ups among few numbers: of these many are trees, and many go round.
func few() [][]api.Place {
	nodes, ups := []int{2, 3, 5, 9}, []int{-1, 0, 1, 2, 3, 4, 5, 9}
	l := [][]api.Place{nil}
	for _, node := range nodes {
		for _, t := range l {
			for _, up := range ups {
				l = append(l, append(slices.Clone(t), api.Place{Node: node, Up: up, Name: "a"}))
			}
		}
	}
	return l
}

// drawn is lists with any number of places, each below any node.
func drawn() [][]api.Place {
	draw, called := rand.New(rand.NewSource(6)), names()
	var l [][]api.Place
	for n := range 1000 {
		var t []api.Place
		for node := first; node < ids; node++ {
			if draw.Intn(62) < n%63 {
				t = append(t, api.Place{Node: node, Up: draw.Intn(ids), Name: called[draw.Intn(len(called))]})
			}
		}
		if n%2 == 0 { // few of the drawn ones are trees by themselves
			t = mended(t)
		}
		l = append(l, t)
	}
	return l
}

// mended is t, in which each place that is in a loop is put below the root.
func mended(t []api.Place) []api.Place {
	for i, p := range t {
		if above(ups(t), p.Node, p.Up, map[int]bool{}) {
			t[i].Up = 0
		}
	}
	return t
}

// lists is such as may be trees, and such as are none by a loop or by an Up.
func lists() [][]api.Place {
	l := [][]api.Place{nil, {}, example(), chain(), chainDown(), star()}
	l = append(l, few()...)
	return append(l, drawn()...)
}

// trees is those of lists that are trees; it wants that there are some.
func trees(t *testing.T) [][]api.Place {
	t.Helper()
	var l [][]api.Place
	for _, x := range lists() {
		if slow(x) {
			l = append(l, x)
		}
	}
	if len(l) < 1000 {
		t.Fatalf("only %d trees", len(l))
	}
	return l
}

// asked is the numbers of nodes that are asked of a tree.
func asked() []int {
	l := []int{math.MinInt, math.MinInt + 1, -1 << 32, -1, 1<<32 + 5, math.MaxInt - 1, math.MaxInt}
	for n := range ids + 3 {
		l = append(l, n)
	}
	return l
}

// find is what Find shall tell, gone through one by one.
func find(t []api.Place, node int) (int, bool) {
	at := 0
	for _, p := range t {
		if p.Node == node {
			return at, true
		}
		if p.Node < node {
			at++
		}
	}
	return at, false
}

// roomy is t with spare room that holds a mark; whole tells whether the mark still stands there.
func roomy(t []api.Place) (list []api.Place, whole func() bool) {
	mark := api.Place{Node: -7, Up: -8, Name: "mark"}
	l := append(slices.Clone(t), mark, mark, mark)
	was := slices.Clone(l)
	return l[:len(t)], func() bool { return slices.Equal(l, was) }
}

// P6.1: Find tells where a node's place stands, or would stand.
func TestFind(t *testing.T) {
	for _, x := range trees(t) {
		for _, node := range asked() {
			at, is := tree.Find(x, node)
			if wantAt, want := find(x, node); at != wantAt || is != want {
				t.Fatalf("Find(%v, %d) = %d, %v", x, node, at, is)
			}
		}
	}
}

// P6.1: Find of the example, by hand.
func TestFindOfExample(t *testing.T) {
	cases := []struct {
		node, at int
		is       bool
	}{{math.MinInt, 0, false}, {0, 0, false}, {2, 0, false}, {3, 0, true}, {4, 1, false}, {5, 1, true}, {6, 2, false}, {math.MaxInt, 2, false}}
	for _, c := range cases {
		if at, is := tree.Find(example(), c.node); at != c.at || is != c.is {
			t.Errorf("Find of %d = %d, %v", c.node, at, is)
		}
	}
	if at, is := tree.Find(nil, 5); at != 0 || is {
		t.Errorf("Find of none = %d, %v", at, is)
	}
}

// P6.1: Get answers a node's place; of a node without one, zero and false.
func TestGet(t *testing.T) {
	for _, x := range trees(t) {
		for _, node := range asked() {
			var want api.Place
			at, has := find(x, node)
			if has {
				want = x[at]
			}
			if p, is := tree.Get(x, node); p != want || is != has {
				t.Fatalf("Get(%v, %d) = %v, %v", x, node, p, is)
			}
		}
	}
}

// with is what Put shall make, gone through one by one.
func with(t []api.Place, p api.Place) []api.Place {
	var l []api.Place
	for _, q := range t {
		if q.Node != p.Node {
			l = append(l, q)
		}
	}
	l = append(l, p)
	slices.SortFunc(l, func(a, b api.Place) int {
		if a.Node < b.Node {
			return -1
		}
		return 1
	})
	return l
}

// without is what Drop shall make, gone through one by one.
func without(t []api.Place, node int) []api.Place {
	var l []api.Place
	for _, q := range t {
		if q.Node != node {
			l = append(l, q)
		}
	}
	return l
}

// some is every so manieth of l, the first ones whole.
func some(l [][]api.Place) [][]api.Place {
	var s [][]api.Place
	for i, x := range l {
		if i < 100 || i%7 == 0 {
			s = append(s, x)
		}
	}
	return s
}

// P6.1: Put answers the tree with a node's new place, or with one more; its Up and its name may be any, so may its node.
func TestPut(t *testing.T) {
	ups, called := edges(), append(names(), noNames()...)
	for _, x := range some(trees(t)) {
		for i, node := range asked() {
			p := api.Place{Node: node, Up: ups[i], Name: called[i%len(called)]}
			if got := tree.Put(x, p); !slices.Equal(got, with(x, p)) {
				t.Fatalf("Put(%v, %v) = %v", x, p, got)
			}
		}
	}
}

// P6.1: Put of a place that stands there already is the same tree.
func TestPutOfSame(t *testing.T) {
	for _, x := range trees(t) {
		for _, p := range x {
			if got := tree.Put(x, p); !slices.Equal(got, x) {
				t.Fatalf("Put(%v, %v) = %v", x, p, got)
			}
		}
	}
}

// P6.1: Drop answers the tree without a node's place, the others as they were; as it is, if there is none.
func TestDrop(t *testing.T) {
	for _, x := range trees(t) {
		for _, node := range asked() {
			if got := tree.Drop(x, node); !slices.Equal(got, without(x, node)) {
				t.Fatalf("Drop(%v, %d) = %v", x, node, got)
			}
		}
	}
	if got := tree.Drop(example(), 5); !slices.Equal(got, []api.Place{{Node: 3, Up: 5, Name: "b"}}) {
		t.Errorf("Drop of the example's 5 = %v", got)
	}
}

// P6.1: what Put makes may be asked by Get and Drop, though it is no tree.
func TestGetAndDropOfPut(t *testing.T) {
	called := noNames()
	for _, x := range some(trees(t)) {
		for i, node := range asked() {
			p := api.Place{Node: node, Up: node, Name: called[i%len(called)]}
			y := tree.Put(x, p)
			if got, is := tree.Get(y, node); !is || got != p {
				t.Fatalf("Get of Put(%v, %v) = %v, %v", x, p, got, is)
			}
			if got := tree.Drop(y, node); !slices.Equal(got, without(x, node)) {
				t.Fatalf("Drop of Put(%v, %v) = %v", x, p, got)
			}
			for _, q := range x {
				if got, is := tree.Get(y, q.Node); q.Node != node && (!is || got != q) {
					t.Fatalf("Get(%v, %d) = %v, %v", y, q.Node, got, is)
				}
			}
		}
	}
}

// P6.1: a tree is built by Put, whatever the order of the places.
func TestPutOneByOne(t *testing.T) {
	draw := rand.New(rand.NewSource(6))
	for _, x := range some(trees(t)) {
		var y []api.Place
		for _, i := range draw.Perm(len(x)) {
			y = tree.Put(y, x[i])
		}
		if !slices.Equal(x, y) {
			t.Fatalf("%v, not %v", y, x)
		}
		for _, i := range draw.Perm(len(x)) {
			y = tree.Drop(y, x[i].Node)
		}
		if len(y) != 0 {
			t.Fatalf("%v is left of %v", y, x)
		}
	}
}

// P6.1, rule 3: what is handed in stays, its spare room too; what Put and Drop answer is new.
func TestPutAndDropChangeNothing(t *testing.T) {
	for _, x := range some(trees(t)) {
		for _, node := range asked() {
			l, whole := roomy(x)
			p := api.Place{Node: node, Up: 1, Name: "new"}
			put, drop := tree.Put(l, p), tree.Drop(l, node)
			if !whole() {
				t.Fatalf("%v, %d: what was handed in is changed", x, node)
			}
			for _, got := range [][]api.Place{put, drop} {
				for i := range got {
					got[i] = api.Place{Node: -1, Up: -1, Name: "other"}
				}
				_ = append(got, api.Place{Node: -2}, api.Place{Node: -3})
			}
			if !whole() {
				t.Fatalf("%v, %d: an answer is no new memory", x, node)
			}
		}
	}
}

// P6.1, rule 3: of one tree two answers are two, and the later one changes nothing of the other.
func TestPutTwice(t *testing.T) {
	x := tree.Put(star()[:5], api.Place{Node: 20, Name: "a"})
	y := tree.Put(x, api.Place{Node: 30, Name: "b"})
	z := tree.Put(x, api.Place{Node: 31, Name: "c"})
	w := tree.Drop(y, 2)
	if len(x) != 6 || x[5].Name != "a" || len(y) != 7 || y[6].Name != "b" || len(z) != 7 || z[6].Name != "c" || len(w) != 6 || y[0].Node != 2 {
		t.Errorf("%v, %v, %v, %v", x, y, z, w)
	}
}

// P6.1: Above goes up from a node to its Up, as long as there is a place; any numbers may be asked.
func TestAbove(t *testing.T) {
	for _, x := range some(trees(t)) {
		up := ups(x)
		for _, a := range asked() {
			for _, b := range asked() {
				if got := tree.Above(x, a, b); got != above(up, a, b, map[int]bool{}) {
					t.Fatalf("Above(%v, %d, %d) = %v", x, a, b, got)
				}
			}
		}
	}
}

// P6.1: Above, where the way is as long as may be.
func TestAboveOfChains(t *testing.T) {
	for a := 0; a < ids; a++ {
		for b := first; b < ids; b++ {
			if got := tree.Above(chain(), a, b); got != (a == 0 || a >= b) {
				t.Errorf("the chain: Above(%d, %d) = %v", a, b, got)
			}
			if got := tree.Above(chainDown(), a, b); got != (1 <= a && a <= b) {
				t.Errorf("the chain down: Above(%d, %d) = %v", a, b, got)
			}
			if got := tree.Above(star(), a, b); got != (a == 0 || a == b) {
				t.Errorf("the star: Above(%d, %d) = %v", a, b, got)
			}
		}
	}
}

// P6.1: a node without a place is above those that are below it, and at itself; nothing else is above it.
func TestAboveOfNoPlace(t *testing.T) {
	x := []api.Place{{Node: 4, Up: 9, Name: "a"}, {Node: 6, Up: 4, Name: "b"}}
	for _, c := range []struct {
		a, b int
		want bool
	}{{9, 4, true}, {9, 6, true}, {4, 6, true}, {6, 4, false}, {4, 9, false}, {9, 9, true}, {7, 7, true}, {0, 9, false}, {0, 6, false}, {9, 0, false}} {
		if tree.Above(x, c.a, c.b) != c.want || tree.Above(nil, c.a, c.b) != (c.a == c.b) {
			t.Errorf("Above(%d, %d) isn't %v", c.a, c.b, c.want)
		}
	}
}

// P6.1: Right of lists, of which many go round.
func TestRight(t *testing.T) {
	yes, no := 0, 0
	for _, x := range lists() {
		want := slow(x)
		if tree.Right(x) != want {
			t.Fatalf("Right(%v) = %v", x, !want)
		}
		if want {
			yes++
		} else {
			no++
		}
	}
	if yes < 1000 || no < 1000 {
		t.Errorf("%d trees, and %d others", yes, no)
	}
}

// P6.1: Node and Up may be from their lowest to their highest, and none below or beyond, wherever in the list.
func TestRightByNumbers(t *testing.T) {
	for _, n := range append(edges(), first-1, first, ids-1, ids) {
		if got := tree.Right([]api.Place{{Node: n, Name: "a"}}); got != (first <= n && n < ids) {
			t.Errorf("Node %d: Right = %v", n, got)
		}
		for i := range star() {
			x := star()
			x[i].Up = n
			if got := tree.Right(x); got != (0 <= n && n < ids && n != x[i].Node) {
				t.Errorf("Up %d of %d: Right = %v", n, x[i].Node, got)
			}
		}
	}
	x := append(star(), api.Place{Node: ids, Name: "a"})
	if tree.Right(x) || !tree.Right(x[:ids-first]) {
		t.Error("a place of one node more")
	}
	for _, node := range []int{math.MinInt, -1, 0, 1} {
		if tree.Right(append([]api.Place{{Node: node, Name: "a"}}, star()...)) {
			t.Errorf("a place of node %d", node)
		}
	}
}

// P6.1: a name is a name, and no twin, wherever in the list; two nodes may have the same one.
func TestRightByNames(t *testing.T) {
	for _, i := range []int{0, 1, 30, 61} {
		x := star()
		for _, s := range names() {
			x[i].Name = s
			if !tree.Right(x) {
				t.Errorf("%q: not right", s)
			}
		}
		for _, s := range noNames() {
			x[i].Name = s
			if tree.Right(x) {
				t.Errorf("%.30q: right", s)
			}
		}
	}
	if !tree.Right([]api.Place{{Node: 2, Name: "a"}, {Node: 3, Name: "a"}}) {
		t.Error("two of one name: not right")
	}
}

// P6.1: the nodes rise: no two of a tree are the same, none stands behind a greater one.
func TestRightByOrder(t *testing.T) {
	for i := range star() {
		for j := range i {
			x := star()
			x[i], x[j] = x[j], x[i]
			if tree.Right(x) {
				t.Errorf("%d and %d changed: right", i, j)
			}
			x = star()
			x[i].Node = x[j].Node
			if tree.Right(x) {
				t.Errorf("%d twice: right", x[j].Node)
			}
		}
	}
	for _, x := range [][]api.Place{
		{{Node: 2, Name: "a"}, {Node: 2, Name: "a"}},
		{{Node: 3, Name: "a"}, {Node: 2, Name: "b"}},
		{{Node: 63, Name: "a"}, {Node: 63, Up: 1, Name: "b"}},
	} {
		if tree.Right(x) {
			t.Errorf("%v: right", x)
		}
	}
}

// P6.1: no node is at or above its own Up: loops of each length, through any nodes, with others that hang on them.
func TestRightByLoops(t *testing.T) {
	draw := rand.New(rand.NewSource(6))
	for n := 1; n <= ids-first; n++ {
		for range 20 {
			x, way := star(), draw.Perm(ids - first)[:n]
			for i := range way[1:] {
				x[way[i]].Up = x[way[i+1]].Node
			}
			for i := range x { // what doesn't stand on the way hangs on it
				if !slices.Contains(way, i) && draw.Intn(2) == 0 {
					x[i].Up = x[way[draw.Intn(n)]].Node
				}
			}
			if !tree.Right(x) {
				t.Fatalf("%v: not right", x)
			}
			x[way[n-1]].Up = x[way[0]].Node
			if tree.Right(x) {
				t.Fatalf("%v: right, with a loop of %d", x, n)
			}
			var loop []api.Place // alone
			for i, p := range x {
				if slices.Contains(way, i) {
					loop = append(loop, p)
				}
			}
			if tree.Right(loop) {
				t.Fatalf("%v: right", loop)
			}
		}
	}
}

// P6.1: nodes that others are below needn't have a place.
func TestRightOfNoPlace(t *testing.T) {
	for up := range ids {
		if got := tree.Right([]api.Place{{Node: 5, Up: up, Name: "a"}}); got != (up != 5) {
			t.Errorf("5 below %d: Right = %v", up, got)
		}
	}
}

// P1, P6.1: Right ends soon, and changes nothing, also of what is far from a tree.
func TestRightOfMany(t *testing.T) {
	for _, node := range []int{0, 2, 63} {
		x := slices.Repeat([]api.Place{{Node: node, Up: 1, Name: "a"}}, 1<<20)
		if tree.Right(x) {
			t.Errorf("many of %d: right", node)
		}
	}
	for _, x := range some(lists()) {
		l, whole := roomy(x)
		tree.Right(l)
		tree.Print(l)
		if !whole() {
			t.Fatalf("%v is changed", x)
		}
	}
}

// P6.1: trees whose bytes are known; each field has a place of its own.
func TestPrintOfKnown(t *testing.T) {
	cases := []struct {
		t    []api.Place
		want string
	}{
		{nil, "\x00"}, {[]api.Place{}, "\x00"},
		{example(), "\x04\x06\x0a\x02b\x0a\x00\x02a"},
		{[]api.Place{{Node: 63, Up: 64, Name: "abc"}}, "\x02\x7e\x80\x01\x06abc"},
		{[]api.Place{{}, {Node: -1, Up: -2, Name: "\xff/"}, {}}, "\x06\x00\x00\x00\x01\x03\x04\xff/\x00\x00\x00"},
	}
	for _, c := range cases {
		if got := tree.Print(c.t); got != c.want {
			t.Errorf("Print(%v) = % x, not % x", c.t, got, c.want)
		}
	}
}

// P6.1: Print of any, be it a tree or not.
func TestPrint(t *testing.T) {
	l := append(lists(), raw()...)
	l = append(l, slices.Repeat(star(), 2000))
	for _, x := range l {
		if got := tree.Print(x); got != bytes(x) {
			t.Fatalf("Print(%.100v) = %.50q", x, got)
		}
	}
}

// raw is lists that hold anything.
func raw() [][]api.Place {
	l := [][]api.Place{chain()[1:], append(star(), star()...)}
	for _, n := range edges() {
		l = append(l, []api.Place{{Node: n, Up: 0, Name: "a"}}, []api.Place{{Node: 5, Up: n, Name: "a"}})
		l = append(l, []api.Place{{Node: 5, Up: 0, Name: "a"}, {Node: n, Up: 1, Name: "b"}}, []api.Place{{Node: 7, Up: n, Name: "a"}, {Node: 9, Up: 7, Name: "b"}})
	}
	for _, s := range append(names(), noNames()...) {
		l = append(l, []api.Place{{Node: 5, Up: 0, Name: s}}, []api.Place{{Node: 4, Up: 5, Name: s}, {Node: 5, Up: 1, Name: s}})
	}
	for i := 1; i < ids-first; i++ {
		x := star()
		x[i-1], x[i] = x[i], x[i-1]
		y := chain()
		y[i].Node--
		z := chain()
		z[ids-first-1].Up = i + 1
		l = append(l, x, y, z)
	}
	return l
}

// unread wants that Read finds no tree at the beginning of s, with other bytes ahead, too.
func unread(t *testing.T, what, s string) {
	t.Helper()
	for _, ahead := range []string{"", "\x80", bytes(example())} {
		r := &code.Reader{S: ahead + s, At: len(ahead)}
		if x := tree.Read(r); len(x) != 0 || !r.Bad || r.Done() || r.S != ahead+s {
			t.Fatalf("%s: Read of %.50q behind %q = %v, Bad %v", what, s, ahead, x, r.Bad)
		}
	}
}

// P6.2: Read reads a tree wherever it stands, goes on behind it, and leaves the rest.
func TestRead(t *testing.T) {
	for _, x := range trees(t) {
		s := bytes(x)
		for _, ahead := range []string{"", "\x80", "ahead"} {
			for _, behind := range []string{"", "\x00", "\xff", "\x08\x00\x02a"} {
				r := &code.Reader{S: ahead + s + behind, At: len(ahead)}
				got := tree.Read(r)
				if !slices.Equal(got, x) || r.Bad || r.At != len(ahead)+len(s) || r.Done() != (behind == "") || r.S != ahead+s+behind {
					t.Fatalf("Read of %v between %q and %q = %v, %#v", x, ahead, behind, got, *r)
				}
			}
		}
	}
}

// P6.2: trees in one row, with other things between, are read in their order; each one's memory is its own.
func TestReadInRow(t *testing.T) {
	l := trees(t)
	var row strings.Builder
	for i, x := range l {
		row.WriteString(bytes(x) + code.Num(i))
	}
	r := &code.Reader{S: row.String()}
	var got [][]api.Place
	for i, x := range l {
		if y, n := tree.Read(r), r.Num(); !slices.Equal(x, y) || n != i {
			t.Fatalf("thing %d: %v, %d, not %v", i, y, n, x)
		} else {
			got = append(got, y)
		}
	}
	for i, y := range got {
		if !slices.Equal(y, l[i]) {
			t.Fatalf("thing %d has become %v", i, y)
		}
	}
	if !r.Done() {
		t.Errorf("At %d of %d, Bad %v", r.At, len(r.S), r.Bad)
	}
	if x := tree.Read(r); len(x) != 0 || !r.Bad || r.Done() {
		t.Errorf("behind the end: %v", x)
	}
}

// P6.2: what is no tree is none, though its bytes are right ones.
func TestReadOfNone(t *testing.T) {
	n := 0
	for _, x := range append(lists(), raw()...) {
		if !slow(x) {
			unread(t, "no tree", bytes(x))
			n++
		}
	}
	if n < 1000 {
		t.Errorf("only %d that are none", n)
	}
}

// P6.2: bytes that are cut are none's, wherever.
func TestReadOfCut(t *testing.T) {
	l := trees(t)
	for _, x := range append(l[:100:100], l[len(l)-20:]...) {
		s := bytes(x)
		for n := range len(s) {
			unread(t, "cut", s[:n])
		}
	}
}

// P6.2: a count that no tree has, whatever stands behind; and one that isn't that of the places.
func TestReadOfWrongCounts(t *testing.T) {
	places := bytes(chain())[1:]
	if bytes(chain())[0] != 2*(ids-first) {
		t.Fatal("the chain's count has other bytes")
	}
	for _, n := range append(edges(), ids-first-1, ids-first, ids-first+1, ids, ids+1, 1<<20, 1<<40) {
		r := &code.Reader{S: code.Num(n) + places}
		x := tree.Read(r)
		if want := 0 <= n && n <= ids-first; r.Bad == want || want && !slices.Equal(x, chain()[:n]) || !want && len(x) != 0 {
			t.Errorf("%d places: %v, Bad %v", n, x, r.Bad)
		}
		if n < 0 || n > ids-first {
			for _, behind := range []string{"", "\x00", places + places, strings.Repeat("\x04\x00\x02a", 100), strings.Repeat("\x00", 300)} {
				unread(t, "a wrong count", code.Num(n)+behind)
			}
		}
	}
}

// P6.2: a number with more bytes than it needs, or too great a one, is none, in each field.
func TestReadOfWrongNumbers(t *testing.T) {
	nums := []int{2, 3, 5, 1, 5, 0, 1} // how many; Node, Up and a name's length, twice
	for i, n := range nums {
		low := code.Num(n)[0]
		for _, wrong := range []string{
			string([]byte{low | 128, 0}),
			string([]byte{low | 128, 128, 0}),
			string([]byte{low | 128}) + strings.Repeat("\x80", 8) + "\x02", // 2^64 more
			string([]byte{low | 128}) + "\x80\x80\x80\x20",                 // 2^32 more
			strings.Repeat("\xff", 12),
		} {
			var s string
			for j, m := range nums {
				if j == i {
					s += wrong
				} else {
					s += code.Num(m)
				}
				if j == 3 || j == 6 {
					s += "x"
				}
			}
			unread(t, "a wrong number", s)
		}
	}
}

// P6.2: behind Bad, and at places outside, nothing is read, though a tree stands there.
func TestReadBehindBad(t *testing.T) {
	for _, s := range []string{"\x00", bytes(example()), bytes(chain())} {
		r := &code.Reader{S: s, Bad: true}
		if x := tree.Read(r); len(x) != 0 || !r.Bad {
			t.Errorf("behind Bad: %v, %#v", x, *r)
		}
		r = &code.Reader{S: "\x04" + s}
		if r.Bool(); len(tree.Read(r)) != 0 || !r.Bad {
			t.Errorf("behind a wrong bool: %#v", *r)
		}
		r = &code.Reader{S: "\x02\x02\x00\x02a" + s} // a place of the trash
		if tree.Read(r); len(tree.Read(r)) != 0 || r.Num() != 0 || !r.Bad || r.Done() {
			t.Errorf("behind a wrong tree: %#v", *r)
		}
		for _, at := range []int{math.MinInt, -1, len(s), len(s) + 1, math.MaxInt - 1, math.MaxInt} {
			r = &code.Reader{S: s, At: at}
			if x := tree.Read(r); len(x) != 0 || !r.Bad {
				t.Errorf("at %d: %v, %#v", at, x, *r)
			}
		}
	}
}

// P6.3: trees go there and back.
func TestThereAndBack(t *testing.T) {
	for _, x := range trees(t) {
		r := &code.Reader{S: tree.Print(x)}
		if y := tree.Read(r); !slices.Equal(x, y) || !r.Done() {
			t.Fatalf("%v comes back as %v, %#v", x, y, *r)
		}
	}
}

// P6.3: bytes go there and back: what Read takes is a tree, and what Print writes of it, whichever bytes are changed.
func TestOneWriting(t *testing.T) {
	l := trees(t)
	draw := rand.New(rand.NewSource(6))
	taken, refused := 0, 0
	for range 100000 {
		b := []byte(bytes(l[draw.Intn(len(l))]))
		for range 1 + draw.Intn(2) {
			b[draw.Intn(len(b))] = byte(draw.Intn(256))
		}
		r := &code.Reader{S: string(b)}
		x := tree.Read(r)
		if r.Bad {
			refused++
			if len(x) != 0 {
				t.Fatalf("% x is none, and %v", b, x)
			}
			continue
		}
		taken++
		if !slow(x) || tree.Print(x) != string(b[:r.At]) {
			t.Fatalf("% x is taken as %v", b, x)
		}
	}
	if taken < 1000 || refused < 1000 {
		t.Errorf("%d taken, %d refused", taken, refused)
	}
}

// P6.3: two lists that differ, whether they are trees or not, have other bytes.
func TestPrintsAreTwo(t *testing.T) {
	seen := map[string][]api.Place{}
	for _, x := range append(lists(), raw()...) {
		s := tree.Print(x)
		if y, is := seen[s]; is && !slices.Equal(x, y) {
			t.Errorf("%.100v and %.100v have the same bytes", x, y)
		}
		seen[s] = x
	}
}
