package view_test

import (
	"math"
	"math/rand"
	"slices"
	"strconv"
	"strings"
	"testing"

	"bargeman/api"
	"bargeman/tree"
	"bargeman/view"
)

// The document's numbers, written out: the tests shall not follow one that is changed.
const (
	root  = 0
	trash = 1
	first = 2
	ids   = 64
)

// shown is p's shown name in t, as the chapter's words tell it.
func shown(t []api.Place, p api.Place) string {
	for _, q := range t {
		if q.Up == p.Up && q.Name == p.Name && q.Node < p.Node {
			return p.Name + "~" + strconv.Itoa(p.Node)
		}
	}
	return p.Name
}

// told is the nodes of t below top, as the chapter's words tell them.
func told(t []api.Place, top int) []api.Seen {
	var l []api.Seen
	for node := first; node < ids; node++ {
		for _, p := range t {
			if p.Node == node && p.Up == top {
				l = append(l, api.Seen{Node: node, Up: top, Name: shown(t, p)})
				l = append(l, told(t, node)...)
			}
		}
	}
	return l
}

// way is the shown names down to node, a slash ahead of each, and whether it comes from node 0.
func way(t []api.Place, node int) (string, bool) {
	if node == root {
		return "", true
	}
	for _, p := range t {
		if p.Node == node {
			s, is := way(t, p.Up)
			return s + "/" + shown(t, p), is
		}
	}
	return "", false
}

// path is node's, as the chapter's words tell it.
func path(t []api.Place, node int) string {
	if s, is := way(t, node); is {
		return s
	}
	return ""
}

// paths is the nodes that are shown in the tree t, by their paths, and node 0 by none.
func paths(t []api.Place) map[string]int {
	m := map[string]int{"": root}
	for node := first; node < ids; node++ {
		if s := path(t, node); s != "" {
			m[s] = node
		}
	}
	return m
}

// few is all trees of four nodes below these, the root, the trash, and one without a place, by two names.
func few() [][]api.Place {
	l := [][]api.Place{nil}
	for node := first; node < 6; node++ {
		for _, t := range l {
			for _, up := range []int{root, trash, 2, 3, 4, 5, 9} {
				for _, s := range []string{"a", "b"} {
					l = append(l, append(slices.Clone(t), api.Place{Node: node, Up: up, Name: s}))
				}
			}
		}
	}
	return slices.DeleteFunc(l, func(t []api.Place) bool { return !tree.Right(t) })
}

// all is every node that may have a place, each below up of it.
func all(up func(node int) int) []api.Place {
	var t []api.Place
	for node := first; node < ids; node++ {
		t = append(t, api.Place{Node: node, Up: up(node), Name: "0123456789abcdef"})
	}
	return t
}

// chain is all nodes in one way, the last one at its top, below the root.
func chain() []api.Place {
	return all(func(node int) int { return (node + 1) % ids })
}

// chainDown is all nodes in one way, the first one at its top, below the trash.
func chainDown() []api.Place {
	return all(func(node int) int { return node - 1 })
}

// star is all nodes below up.
func star(up int) []api.Place {
	t := all(func(int) int { return up })
	if up >= first { // not below itself
		t = slices.Delete(t, up-first, up-first+1)
	}
	return t
}

// drawn is trees with any number of nodes, of few names and of many, most of them below few others.
func drawn() [][]api.Place {
	draw := rand.New(rand.NewSource(9))
	names := []string{"a", "b", "A", "!", "}", "12", "a-3", "0123456789abcdef", "0123456789abcde"}
	var l [][]api.Place
	for n := range 800 {
		var t []api.Place
		most := 2 + draw.Intn(ids-1)
		for node := first; node < ids; node++ {
			if draw.Intn(62) < n%63 {
				p := api.Place{Node: node, Up: draw.Intn(most), Name: names[draw.Intn(1+n%len(names))]}
				if tree.Above(t, node, p.Up) || node == p.Up {
					p.Up = root
				}
				t = append(t, p)
			}
		}
		l = append(l, t)
	}
	return l
}

// big is trees of all sizes.
func big() [][]api.Place {
	l := [][]api.Place{nil, {}, chain(), chain()[:61], chain()[1:], chainDown(), chainDown()[1:]}
	for up := range ids {
		l = append(l, star(up))
	}
	l = append(l, drawn()...)
	return slices.DeleteFunc(l, func(t []api.Place) bool { return !tree.Right(t) })
}

// trees is all of these; it wants that there are many.
func trees(t *testing.T) [][]api.Place {
	t.Helper()
	l := append(few(), big()...)
	if len(l) < 10000 || len(big()) < 800 {
		t.Fatalf("only %d trees, %d of them big", len(l), len(big()))
	}
	return l
}

// noTrees is lists that are no trees, each by one thing.
func noTrees() map[string][]api.Place {
	two, three := api.Place{Node: 2, Up: 0, Name: "a"}, api.Place{Node: 3, Up: 2, Name: "b"}
	m := map[string][]api.Place{
		"below itself":       {two, three, {Node: 4, Up: 4, Name: "c"}},
		"alone below itself": {{Node: 2, Up: 2, Name: "a"}},
		"a loop":             {two, {Node: 3, Up: 4, Name: "b"}, {Node: 4, Up: 3, Name: "c"}},
		"a loop at the top":  {{Node: 2, Up: 3, Name: "a"}, three},
		"falling":            {three, two},
		"twice":              {two, two},
		"twice, elsewhere":   {two, {Node: 2, Up: 1, Name: "b"}},
		"long loop":          all(func(node int) int { return first + (node-first+1)%(ids-first) }),
		"many":               slices.Repeat([]api.Place{two, three}, 1<<16),
	}
	for _, n := range []int{math.MinInt, -1, 0, 1, 64, 65, 1 << 32, 1<<32 + 4, math.MaxInt} {
		m["node "+strconv.Itoa(n)] = []api.Place{two, three, {Node: n, Up: 0, Name: "c"}}
		m["node alone "+strconv.Itoa(n)] = []api.Place{{Node: n, Up: 1, Name: "c"}}
	}
	for _, n := range []int{math.MinInt, -1, 64, 65, 1 << 32, math.MaxInt} {
		m["up "+strconv.Itoa(n)] = []api.Place{two, three, {Node: 4, Up: n, Name: "c"}}
	}
	for _, s := range []string{"", "a/b", "/", "~", "a~3", " ", "a b", "\x7f", "é", "\xff", "0123456789abcdefg"} {
		m["name "+strconv.Quote(s)] = []api.Place{two, three, {Node: 4, Up: 0, Name: s}}
		m["name in the trash "+strconv.Quote(s)] = []api.Place{two, three, {Node: 4, Up: 1, Name: s}}
		m["name below none "+strconv.Quote(s)] = []api.Place{two, three, {Node: 4, Up: 9, Name: s}}
	}
	return m
}

// asked is the numbers of nodes that are asked of a tree.
func asked() []int {
	l := []int{math.MinInt, math.MinInt + 2, -1 << 32, -2, -1, 1<<32 + 2, 1 << 32, math.MaxInt - 1, math.MaxInt}
	for n := range ids + 3 {
		l = append(l, n)
	}
	return l
}

// roomy is t with spare room that holds a mark; whole tells whether all of it still is as it was.
func roomy(t []api.Place) (list []api.Place, whole func() bool) {
	mark := api.Place{Node: 7, Up: 0, Name: "a"}
	l := append(slices.Clone(t), mark, mark, mark)
	was := slices.Clone(l)
	return l[:len(t)], func() bool { return slices.Equal(l, was) }
}

// P9.1: the chapter's example, by hand.
func TestExample(t *testing.T) {
	x := []api.Place{{Node: 2, Up: 0, Name: "a"}, {Node: 3, Up: 0, Name: "a"}}
	if got := view.Show(x); !slices.Equal(got, []api.Seen{{Node: 2, Up: 0, Name: "a"}, {Node: 3, Up: 0, Name: "a~3"}}) {
		t.Errorf("Show = %v", got)
	}
	for s, want := range map[string]int{"/a": 2, "/a~3": 3} {
		if node, is := view.Look(x, s); node != want || !is {
			t.Errorf("Look(%s) = %d, %v", s, node, is)
		}
		if got := view.Path(x, want); got != s {
			t.Errorf("Path(%d) = %q", want, got)
		}
	}
	if got := view.Trash(x); len(got) != 0 {
		t.Errorf("Trash = %v", got)
	}
}

// known is a tree that has something of all: twins at the top, in the deep and in the trash; nodes that stand ahead of those above them; some below none.
func known() []api.Place {
	return []api.Place{
		{Node: 2, Up: 1, Name: "a"},
		{Node: 3, Up: 9, Name: "b"},
		{Node: 4, Up: 0, Name: "a"},
		{Node: 5, Up: 9, Name: "b"},
		{Node: 6, Up: 40, Name: "a"},
		{Node: 7, Up: 6, Name: "a"},
		{Node: 8, Up: 0, Name: "A"},
		{Node: 9, Up: 0, Name: "a"},
		{Node: 10, Up: 1, Name: "a"},
		{Node: 11, Up: 4, Name: "b"},
		{Node: 12, Up: 10, Name: "b"},
		{Node: 13, Up: 3, Name: "a"},
		{Node: 14, Up: 0, Name: "a"},
		{Node: 62, Up: 10, Name: "b"},
		{Node: 63, Up: 3, Name: "c"},
	}
}

// P9.1: Show and Trash of it, by hand: rising, and right behind each one those below it.
func TestShowOfKnown(t *testing.T) {
	show := []api.Seen{
		{Node: 4, Up: 0, Name: "a"},
		{Node: 11, Up: 4, Name: "b"},
		{Node: 8, Up: 0, Name: "A"},
		{Node: 9, Up: 0, Name: "a~9"},
		{Node: 3, Up: 9, Name: "b"},
		{Node: 13, Up: 3, Name: "a"},
		{Node: 63, Up: 3, Name: "c"},
		{Node: 5, Up: 9, Name: "b~5"},
		{Node: 14, Up: 0, Name: "a~14"},
	}
	if got := view.Show(known()); !slices.Equal(got, show) {
		t.Errorf("Show = %v", got)
	}
	away := []api.Seen{
		{Node: 2, Up: 1, Name: "a"},
		{Node: 10, Up: 1, Name: "a~10"},
		{Node: 12, Up: 10, Name: "b"},
		{Node: 62, Up: 10, Name: "b~62"},
	}
	if got := view.Trash(known()); !slices.Equal(got, away) {
		t.Errorf("Trash = %v", got)
	}
}

// P9.1: Path and Look of it, by hand.
func TestPathsOfKnown(t *testing.T) {
	want := map[int]string{
		4: "/a", 11: "/a/b", 8: "/A", 9: "/a~9", 3: "/a~9/b", 13: "/a~9/b/a",
		63: "/a~9/b/c", 5: "/a~9/b~5", 14: "/a~14",
	}
	for _, node := range asked() {
		if got := view.Path(known(), node); got != want[node] {
			t.Errorf("Path(%d) = %q", node, got)
		}
	}
	for node, s := range want {
		if got, is := view.Look(known(), s); got != node || !is {
			t.Errorf("Look(%q) = %d, %v", s, got, is)
		}
	}
	for _, s := range []string{
		"/", "a", "a/b", "/a/", "//a", "/a//b", "/a/b/", "/a~4", "/a~09", "/a~9/", "/a~", "/a~10", "/a~2", "/a~3",
		"/b", "/c", "/a/c", "/a/b~11", "/a~9/b~3", "/a~9/a", "/a~14/b", "/aa", "/a ", " /a", "/a\x00", "\x00", "\xff", "~", "/~9",
	} {
		if got, is := view.Look(known(), s); got != 0 || is {
			t.Errorf("Look(%q) = %d, %v", s, got, is)
		}
	}
	if got, is := view.Look(known(), ""); got != 0 || !is {
		t.Errorf("Look of nothing = %d, %v", got, is)
	}
}

// P9.1: nothing is shown of the empty tree, and nothing put away; but its root is found.
func TestOfNone(t *testing.T) {
	for _, x := range [][]api.Place{nil, {}} {
		if len(view.Show(x)) != 0 || len(view.Trash(x)) != 0 || view.Path(x, 0) != "" || view.Path(x, 2) != "" {
			t.Error("something is shown")
		}
		if node, is := view.Look(x, ""); node != 0 || !is {
			t.Errorf("Look of nothing = %d, %v", node, is)
		}
		if node, is := view.Look(x, "/"); node != 0 || is {
			t.Errorf("Look of a slash = %d, %v", node, is)
		}
	}
}

// P9.1: the greatest names, and their twins, which are longer than any name.
func TestLongNames(t *testing.T) {
	const s = "0123456789abcdef"
	got := view.Show(star(root))
	if len(got) != ids-first || got[0] != (api.Seen{Node: 2, Name: s}) || got[61] != (api.Seen{Node: 63, Name: s + "~63"}) {
		t.Errorf("Show of the star = %v", got)
	}
	if node, is := view.Look(star(root), "/"+s+"~63"); node != 63 || !is {
		t.Errorf("Look = %d, %v", node, is)
	}
	long := strings.Repeat("/"+s, ids-first)
	if got := view.Path(chain(), 2); got != long {
		t.Errorf("Path down the chain = %q", got)
	}
	if node, is := view.Look(chain(), long); node != 2 || !is {
		t.Errorf("Look down the chain = %d, %v", node, is)
	}
}

// P9.1: Show and Trash are what the words tell, of all small trees, and of greater ones.
func TestShow(t *testing.T) {
	twins := 0
	for _, x := range trees(t) {
		show, away := view.Show(x), view.Trash(x)
		if want := told(x, root); !slices.Equal(show, want) {
			t.Fatalf("Show(%v) = %v, not %v", x, show, want)
		}
		if want := told(x, trash); !slices.Equal(away, want) {
			t.Fatalf("Trash(%v) = %v, not %v", x, away, want)
		}
		for _, s := range append(show, away...) {
			if strings.Contains(s.Name, "~") {
				twins++
			}
		}
	}
	if twins < 5000 {
		t.Errorf("only %d twins", twins)
	}
}

// P9.1: Path is what the words tell, of any node.
func TestPath(t *testing.T) {
	for _, x := range trees(t) {
		for node := range 10 {
			if got, want := view.Path(x, node), path(x, node); got != want {
				t.Fatalf("Path(%v, %d) = %q, not %q", x, node, got, want)
			}
		}
	}
	for _, x := range big() {
		for _, node := range asked() {
			if got, want := view.Path(x, node), path(x, node); got != want {
				t.Fatalf("Path(%v, %d) = %q, not %q", x, node, got, want)
			}
		}
	}
}

// near is texts that are a path, and such as are nearly one.
func near(s string) []string {
	l := []string{s, s + "/", "/" + s, s + s, s + "~", s + "~2", s + "~3", s + "~63", s + "~64", s + "~03", s + "a", s + "\x00", s + "/a", s + "/b~3", s + " "}
	if s == "" {
		return l
	}
	cut := strings.LastIndexAny(s, "/~")
	return append(l, s[1:], s[:len(s)-1], s[:cut], s[:cut+1], strings.ToUpper(s), strings.ReplaceAll(s, "~", "~0"), strings.ReplaceAll(s, "/", "//"))
}

// look wants that Look of x finds what the words tell by what is near the path of each node, be it shown, put away, or below none.
func look(t *testing.T, x []api.Place) (found int) {
	t.Helper()
	m := paths(x)
	ask := func(s string) {
		for _, s := range near(s) {
			node, is := view.Look(x, s)
			if want, may := m[s]; node != want || is != may {
				t.Fatalf("Look(%v, %q) = %d, %v, not %d, %v", x, s, node, is, want, may)
			} else if is {
				found++
			}
		}
	}
	ask("")
	for _, p := range x {
		s, _ := way(x, p.Node)
		ask(s)
		ask("/" + p.Name)
		ask("/" + p.Name + "~" + strconv.Itoa(p.Node))
	}
	return found
}

// P9.1: Look finds what is shown by its path, and nothing else.
func TestLook(t *testing.T) {
	found := 0
	for i, x := range few() {
		if i%5 == 0 {
			found += look(t, x)
		}
	}
	for i, x := range drawn() {
		if i%16 == 0 {
			found += look(t, x)
		}
	}
	if found < 10000 {
		t.Errorf("only %d found", found)
	}
}

// P9.1: of what is no tree nothing is shown nor put away, and nothing is found, its root neither.
func TestOfNoTree(t *testing.T) {
	for what, x := range noTrees() {
		if tree.Right(x) {
			t.Fatalf("%s: a tree", what)
		}
		if l := view.Show(x); len(l) != 0 {
			t.Errorf("%s: Show = %v", what, l)
		}
		if l := view.Trash(x); len(l) != 0 {
			t.Errorf("%s: Trash = %v", what, l)
		}
		for _, s := range []string{"", "/", "/a", "/a/b", "/c", "/a~2", "/a~3", "//", "/~"} {
			if node, is := view.Look(x, s); node != 0 || is {
				t.Errorf("%s: Look(%q) = %d, %v", what, s, node, is)
			}
		}
	}
}

// P1: Path, which isn't asked of such, ends all the same.
func TestPathOfNoTree(t *testing.T) {
	for _, x := range noTrees() {
		for _, node := range asked()[:15] {
			view.Path(x, node)
		}
	}
}

// P1: Look ends, whatever text it is given.
func TestLookOfAnyText(t *testing.T) {
	draw := rand.New(rand.NewSource(9))
	for _, s := range []string{strings.Repeat("/", 1<<22), strings.Repeat("/a", 1<<22), "/a" + strings.Repeat("~", 1<<22), "/" + strings.Repeat("a", 1<<22)} {
		if node, is := view.Look(known(), s); node != 0 || is {
			t.Errorf("Look(%.20q) = %d, %v", s, node, is)
		}
	}
	m := paths(known())
	for range 20000 {
		b := make([]byte, draw.Intn(9))
		for i := range b {
			b[i] = "/aAbc~0149\x00\xff"[draw.Intn(12)]
		}
		node, is := view.Look(known(), string(b))
		if want, may := m[string(b)]; node != want || is != may {
			t.Fatalf("Look(%q) = %d, %v", b, node, is)
		}
	}
}

// P9.2: no two nodes below one are shown by one name, and no two by one path; so each is found by its own.
func TestNoNameTwice(t *testing.T) {
	for _, x := range trees(t) {
		for _, l := range [][]api.Seen{view.Show(x), view.Trash(x)} {
			seen := map[api.Seen]int{}
			for _, s := range l {
				key := api.Seen{Up: s.Up, Name: s.Name}
				if other, is := seen[key]; is {
					t.Fatalf("%v: below %d both %d and %d are %q", x, s.Up, other, s.Node, s.Name)
				}
				seen[key] = s.Node
			}
		}
	}
	for _, x := range big() {
		for _, s := range view.Show(x) {
			if node, is := view.Look(x, view.Path(x, s.Node)); node != s.Node || !is {
				t.Fatalf("%v: Look of %d's path = %d, %v", x, s.Node, node, is)
			}
		}
	}
}

// P9.1: what is below the root and what is put away are two, and all that each node is below is told ahead of it.
func TestEachOnce(t *testing.T) {
	for _, x := range trees(t) {
		seen := map[int]bool{}
		for top, l := range [][]api.Seen{view.Show(x), view.Trash(x)} {
			for _, s := range l {
				if seen[s.Node] || s.Up != top && !seen[s.Up] {
					t.Fatalf("%v: %v stands twice, or ahead of what it is below", x, s)
				}
				seen[s.Node] = true
			}
		}
	}
}

// Rule 3: what is handed in stays as it was, its spare room too, and an answer is new memory.
func TestMemory(t *testing.T) {
	for _, x := range append(big(), known()) {
		l, whole := roomy(x)
		show, away := view.Show(l), view.Trash(l)
		view.Path(l, 2)
		view.Look(l, "/a")
		again := view.Show(l)
		for i := range show {
			show[i] = api.Seen{Node: -1}
		}
		clear(append(show, api.Seen{}, api.Seen{})) // its spare room, too
		clear(append(away, api.Seen{}, api.Seen{}))
		if !whole() {
			t.Fatalf("%v is changed", x)
		}
		if want := told(x, root); !slices.Equal(again, want) || !slices.Equal(view.Show(l), want) {
			t.Fatalf("Show(%v) has become %v", x, again)
		}
		if want := told(x, trash); !slices.Equal(view.Trash(l), want) {
			t.Fatalf("Trash(%v) has become %v", x, view.Trash(l))
		}
	}
}

// Rule 4: a call hangs on its arguments alone, not on what was asked ahead of it, nor on the order of a map.
func TestAgain(t *testing.T) {
	l := drawn()
	for i, x := range l {
		show := view.Show(x)
		view.Show(l[(i+1)%len(l)])
		view.Trash(l[(i+2)%len(l)])
		if got := view.Show(slices.Clone(x)); !slices.Equal(got, show) {
			t.Fatalf("Show(%v) = %v, then %v", x, show, got)
		}
	}
}
