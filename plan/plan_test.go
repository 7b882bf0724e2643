package plan_test

import (
	"math"
	"math/rand"
	"slices"
	"testing"

	"bargeman/api"
	"bargeman/plan"
)

// The document's numbers, written out: the tests shall not follow one that is changed.
const (
	rootKind   = 1
	relayKind  = 2
	deviceKind = 3
)

// shaped is a plan of these parents, whose numbers may be with any shape that may be.
func shaped(ups ...int) api.Plan {
	return api.Plan{Up: ups, Quota: 2, Room: 3, Batch: 2, Lease: 900, Wait: 2, Chunk: 32, Keep: 4, Ids: 16}
}

// known is the chapter's example: a relay with two devices, and a device.
func known() api.Plan { return shaped(-1, 0, 1, 1, 0) }

// lame is a plan that may not be: its nodes' parents stand ahead of them, behind them, behind all nodes, or ahead of all; one is its own, and the root has one.
func lame() api.Plan { return shaped(3, 0, -1, 7, 4, 2, -9, 3, 20, 8, 5, math.MinInt, math.MaxInt, 0) }

// has tells whether p has that node.
func has(p api.Plan, node int) bool { return node >= 0 && node < len(p.Up) }

// kids is Kids as the chapter's words tell it.
func kids(p api.Plan, node int) []int {
	var l []int
	for i := 1; i < len(p.Up); i++ {
		if p.Up[i] == node {
			l = append(l, i)
		}
	}
	return l
}

// deep is Deep as the chapter's words tell it.
func deep(p api.Plan, node int) int {
	if !has(p, node) || node == 0 || p.Up[node] >= node {
		return 0
	}
	return 1 + deep(p, p.Up[node])
}

// deepest is Deepest as the chapter's words tell it.
func deepest(p api.Plan) int {
	l := []int{0}
	for node := range p.Up {
		l = append(l, deep(p, node))
	}
	return slices.Max(l)
}

// kind is Kind as the chapter's words tell it.
func kind(p api.Plan, node int) int {
	if !has(p, node) {
		return 0
	} else if node == 0 {
		return rootKind
	} else if len(kids(p, node)) == 0 {
		return deviceKind
	}
	return relayKind
}

// devices is Devices as the chapter's words tell it.
func devices(p api.Plan) []int {
	var l []int
	for node := range p.Up {
		if kind(p, node) == deviceKind {
			l = append(l, node)
		}
	}
	return l
}

// below is Below as the chapter's words tell it.
func below(p api.Plan, node, top int) bool {
	if !has(p, node) {
		return false
	}
	up := p.Up[node]
	return node == top || has(p, up) && up < node && below(p, up, top)
}

// tree tells whether p's parents may be, as the chapter's words tell it.
func tree(p api.Plan) bool {
	n := len(p.Up)
	if n < 2 || n > 12 || p.Up[0] != -1 {
		return false
	}
	for node := 1; node < n; node++ {
		if p.Up[node] < 0 || p.Up[node] > node-1 {
			return false
		}
	}
	without := 0
	for node := range n {
		above := 0
		for up := p.Up[node]; up != -1; up = p.Up[up] {
			above++
		}
		fan := len(kids(p, node))
		if node != 0 && fan == 0 {
			without++
		}
		if above > 4 || fan > 4 {
			return false
		}
	}
	return without <= 8
}

// right is Right as the chapter's words tell it.
func right(p api.Plan) bool {
	for _, b := range bounds() {
		if n := *b.field(&p); n < b.least || n > b.most {
			return false
		}
	}
	return tree(p) && p.Lease > 2*deepest(p)*(p.Wait+2) && p.Lease <= 1000
}

// bound is what one of a plan's numbers may be.
type bound struct {
	name        string
	least, most int
	field       func(p *api.Plan) *int
}

// bounds is all of a plan's numbers but Lease, whose bound hangs on others.
func bounds() []bound {
	return []bound{
		{"Quota", 1, 8, func(p *api.Plan) *int { return &p.Quota }},
		{"Room", 1, 16, func(p *api.Plan) *int { return &p.Room }},
		{"Batch", 1, 8, func(p *api.Plan) *int { return &p.Batch }},
		{"Wait", 1, 8, func(p *api.Plan) *int { return &p.Wait }},
		{"Chunk", 16, 256, func(p *api.Plan) *int { return &p.Chunk }},
		{"Keep", 1, 16, func(p *api.Plan) *int { return &p.Keep }},
		{"Ids", 3, 64, func(p *api.Plan) *int { return &p.Ids }},
	}
}

// few is plans of all lists of up to five parents that are nodes, stand ahead of all, or behind.
func few() []api.Plan {
	l := []api.Plan{shaped()}
	for n := 1; n <= 5; n++ {
		last := [][]int{nil}
		for range n {
			var next [][]int
			for _, ups := range last {
				for up := -2; up <= n; up++ {
					next = append(next, append(slices.Clone(ups), up))
				}
			}
			last = next
		}
		for _, ups := range last {
			l = append(l, shaped(ups...))
		}
	}
	return l
}

// rising is plans of all trees of n nodes, each below one ahead of it.
func rising(n int) []api.Plan {
	last := [][]int{{-1}}
	for node := 1; node < n; node++ {
		var next [][]int
		for _, ups := range last {
			for up := range node {
				next = append(next, append(slices.Clone(ups), up))
			}
		}
		last = next
	}
	var l []api.Plan
	for _, ups := range last {
		l = append(l, shaped(ups...))
	}
	return l
}

// drawn is plans of up to 15 nodes, most of them trees, some with one parent that is any.
func drawn() []api.Plan {
	draw := rand.New(rand.NewSource(10))
	odd := []int{math.MinInt, math.MinInt + 1, -1 << 32, -2, -1, 0, 1, 5, 11, 12, 15, 1 << 32, math.MaxInt - 1, math.MaxInt}
	var l []api.Plan
	for i := range 20000 {
		ups := []int{-1}
		for range draw.Intn(15) {
			node := len(ups)
			ups = append(ups, max(draw.Intn(node), draw.Intn(node)*(i%3)/2))
		}
		if i%4 == 0 {
			ups[draw.Intn(len(ups))] = odd[draw.Intn(len(odd))]
		}
		l = append(l, shaped(ups...))
	}
	return l
}

// chain is a plan of n nodes, each one below the last.
func chain(n int) api.Plan {
	p := shaped()
	for node := range n {
		p.Up = append(p.Up, node-1)
	}
	return p
}

// star is a plan of n nodes below the root.
func star(n int) api.Plan { return shaped(append([]int{-1}, make([]int, n)...)...) }

// asked is the numbers of nodes that are asked of a plan of up to n of them.
func asked(n int) []int {
	l := []int{math.MinInt, math.MinInt + 1, -1 << 32, -9, -2, -1, 1 << 32, math.MaxInt - 1, math.MaxInt}
	for node := range n + 3 {
		l = append(l, node)
	}
	return l
}

// P10.1: the chapter's example, by hand.
func TestExample(t *testing.T) {
	p := known()
	if !plan.Right(p) {
		t.Error("it may not be")
	}
	for node, want := range [][]int{{1, 4}, {2, 3}, nil, nil, nil} {
		if got := plan.Kids(p, node); !slices.Equal(got, want) {
			t.Errorf("Kids(%d) = %v", node, got)
		}
	}
	for node, want := range []int{0, 1, 2, 2, 1, 0} {
		if got := plan.Deep(p, node); got != want {
			t.Errorf("Deep(%d) = %d", node, got)
		}
	}
	for node, want := range []int{rootKind, relayKind, deviceKind, deviceKind, deviceKind, 0} {
		if got := plan.Kind(p, node); got != want {
			t.Errorf("Kind(%d) = %d", node, got)
		}
	}
	for node, tops := range [][]int{{0}, {0, 1}, {0, 1, 2}, {0, 1, 3}, {0, 4}, nil} {
		for top := -2; top < 7; top++ {
			if got := plan.Below(p, node, top); got != slices.Contains(tops, top) {
				t.Errorf("Below(%d, %d) = %v", node, top, got)
			}
		}
	}
	if got := plan.Devices(p); !slices.Equal(got, []int{2, 3, 4}) || plan.Deepest(p) != 2 || plan.Window(p) != 12 {
		t.Errorf("Devices %v, Deepest %d, Window %d", got, plan.Deepest(p), plan.Window(p))
	}
}

// P10.1: of a plan that may not be, by hand. The root is nobody's kid, though it has a parent; who is its own parent is its own kid.
func TestLame(t *testing.T) {
	p := lame()
	if plan.Right(p) {
		t.Error("it may be")
	}
	for node, want := range map[int][]int{
		0: {1, 13}, 2: {5}, 3: {7}, 4: {4}, 5: {10}, 7: {3}, 8: {9}, -1: {2}, -9: {6}, 20: {8}, math.MinInt: {11}, math.MaxInt: {12},
		1: nil, 6: nil, 13: nil, 14: nil, -2: nil, math.MaxInt - 1: nil,
	} {
		if got := plan.Kids(p, node); !slices.Equal(got, want) {
			t.Errorf("Kids(%d) = %v", node, got)
		}
	}
	for node, want := range []int{0, 1, 1, 0, 0, 2, 1, 1, 0, 1, 3, 1, 0, 1, 0} {
		if got := plan.Deep(p, node); got != want {
			t.Errorf("Deep(%d) = %d", node, got)
		}
	}
	for node, want := range []int{1, 3, 2, 2, 2, 2, 3, 2, 2, 3, 3, 3, 3, 3, 0} {
		if got := plan.Kind(p, node); got != want {
			t.Errorf("Kind(%d) = %d", node, got)
		}
	}
	for node, tops := range [][]int{{0}, {1, 0}, {2}, {3}, {4}, {5, 2}, {6}, {7, 3}, {8}, {9, 8}, {10, 5, 2}, {11}, {12}, {13, 0}, nil} {
		for _, top := range asked(len(p.Up)) {
			if got := plan.Below(p, node, top); got != slices.Contains(tops, top) {
				t.Errorf("Below(%d, %d) = %v", node, top, got)
			}
		}
	}
	if got := plan.Devices(p); !slices.Equal(got, []int{1, 6, 9, 10, 11, 12, 13}) || plan.Deepest(p) != 3 || plan.Window(p) != 28 {
		t.Errorf("Devices %v, Deepest %d, Window %d", got, plan.Deepest(p), plan.Window(p))
	}
}

// P10.1: of plans without nodes, and with the root alone: nothing, but for that root, which is none of the devices.
func TestOfNone(t *testing.T) {
	for _, p := range []api.Plan{{}, shaped(), shaped(-1), shaped(0), shaped(7), shaped(math.MinInt)} {
		if plan.Right(p) || plan.Deepest(p) != 0 || len(plan.Devices(p)) != 0 || plan.Window(p) != 0 {
			t.Errorf("%v: Right %v, Deepest %d, Devices %v, Window %d", p, plan.Right(p), plan.Deepest(p), plan.Devices(p), plan.Window(p))
		}
		for _, node := range asked(1) {
			is := node == 0 && len(p.Up) == 1
			if got := plan.Kids(p, node); len(got) != 0 {
				t.Errorf("%v: Kids(%d) = %v", p, node, got)
			}
			if got := plan.Deep(p, node); got != 0 {
				t.Errorf("%v: Deep(%d) = %d", p, node, got)
			}
			if got := plan.Kind(p, node); (got == rootKind) != is || got != 0 && !is {
				t.Errorf("%v: Kind(%d) = %d", p, node, got)
			}
			if got := plan.Below(p, node, node); got != is {
				t.Errorf("%v: Below(%d, itself) = %v", p, node, got)
			}
		}
	}
}

// words wants that each call tells of p what the chapter's words do, of any nodes.
func words(t *testing.T, p api.Plan, asked []int) {
	t.Helper()
	for _, node := range asked {
		if got, want := plan.Kids(p, node), kids(p, node); !slices.Equal(got, want) {
			t.Fatalf("Kids(%v, %d) = %v, not %v", p.Up, node, got, want)
		}
		if got, want := plan.Deep(p, node), deep(p, node); got != want {
			t.Fatalf("Deep(%v, %d) = %d, not %d", p.Up, node, got, want)
		}
		if got, want := plan.Kind(p, node), kind(p, node); got != want {
			t.Fatalf("Kind(%v, %d) = %d, not %d", p.Up, node, got, want)
		}
		for _, top := range asked {
			if got, want := plan.Below(p, node, top), below(p, node, top); got != want {
				t.Fatalf("Below(%v, %d, %d) = %v, not %v", p.Up, node, top, got, want)
			}
		}
	}
	if got, want := plan.Deepest(p), deepest(p); got != want {
		t.Fatalf("Deepest(%v) = %d, not %d", p.Up, got, want)
	}
	if got, want := plan.Devices(p), devices(p); !slices.Equal(got, want) {
		t.Fatalf("Devices(%v) = %v, not %v", p.Up, got, want)
	}
	if got, want := plan.Window(p), (p.Quota+2)*len(devices(p)); got != want {
		t.Fatalf("Window(%v) = %d, not %d", p.Up, got, want)
	}
}

// P10.1: all of any plan of up to five nodes.
func TestOfFew(t *testing.T) {
	for _, p := range few() {
		words(t, p, []int{-3, -2, -1, 0, 1, 2, 3, 4, 5, 6})
	}
}

// P10.1: all of greater plans, of any nodes, by the ends of the numbers' type, too.
func TestOfMany(t *testing.T) {
	l := append(drawn()[:1500], known(), lame(), chain(12), chain(40), star(11), star(40))
	for _, p := range l {
		words(t, p, asked(len(p.Up)))
	}
}

// P10.1: which shapes may be: all small ones, all trees of up to eight nodes, and greater ones.
func TestRightOfShapes(t *testing.T) {
	l := slices.Concat(few(), drawn())
	for n := 1; n <= 8; n++ {
		l = append(l, rising(n)...)
	}
	may := 0
	for _, p := range l {
		got := plan.Right(p)
		if got != right(p) {
			t.Fatalf("Right(%v) = %v", p.Up, got)
		}
		if got {
			may++
		}
	}
	if may < 9000 || may > len(l)-9000 {
		t.Errorf("%d of %d may be", may, len(l))
	}
}

// P10.1: shapes at the edges, by hand: each one that may not be is so by one thing alone.
func TestRightAtTheEdges(t *testing.T) {
	for what, p := range map[string]api.Plan{
		"two nodes":        shaped(-1, 0),
		"twelve nodes":     shaped(-1, 0, 0, 0, 0, 1, 1, 2, 2, 3, 3, 4),
		"four above":       shaped(-1, 0, 1, 2, 3),
		"four kids":        shaped(-1, 0, 0, 0, 0),
		"a relay's four":   shaped(-1, 0, 1, 1, 1, 1),
		"eight devices":    shaped(-1, 0, 0, 0, 1, 1, 1, 1, 2, 2, 2, 3),
		"the second's kid": shaped(-1, 0, 0, 2, 1, 0),
	} {
		if !plan.Right(p) {
			t.Errorf("%s: it may not be", what)
		}
	}
	for what, p := range map[string]api.Plan{
		"one node":            shaped(-1),
		"thirteen nodes":      shaped(-1, 0, 0, 0, 0, 1, 1, 2, 2, 3, 3, 4, 4),
		"five above":          shaped(-1, 0, 1, 2, 3, 4),
		"five above, between": shaped(-1, 0, 1, 2, 3, 4, 0),
		"five kids":           shaped(-1, 0, 0, 0, 0, 0),
		"a relay's five":      shaped(-1, 0, 1, 1, 1, 1, 1),
		"the last one's five": shaped(-1, 0, 0, 2, 2, 2, 2, 2),
		"nine devices":        shaped(-1, 0, 0, 0, 0, 1, 1, 1, 1, 2, 2, 2),
	} {
		if plan.Right(p) {
			t.Errorf("%s: it may be", what)
		}
	}
}

// P10.1: each node's parent may be one ahead of it alone, and the root's -1 alone.
func TestRightOfParents(t *testing.T) {
	shape := []int{-1, 0, 1, 1, 0, 2}
	for node := range shape {
		for _, up := range asked(len(shape)) {
			p := shaped(shape...)
			p.Up = slices.Clone(p.Up)
			p.Up[node] = up
			want := node == 0 && up == -1 || 0 <= up && up < node
			if got := plan.Right(p); got != want {
				t.Errorf("Right of %v = %v", p.Up, got)
			}
		}
	}
}

// P10.1: each number may be from its least to its most, and not beyond.
func TestRightOfNumbers(t *testing.T) {
	for _, b := range bounds() {
		l := []int{math.MinInt, math.MinInt + 1, -1 << 32, 1 << 32, 1<<32 + 1, 1<<32 + 16, math.MaxInt/4 - 1, math.MaxInt/2 - 1, math.MaxInt - 2, math.MaxInt - 1, math.MaxInt}
		for n := -3; n <= b.most+3; n++ {
			l = append(l, n)
		}
		for _, n := range l {
			p := known()
			*b.field(&p) = n
			if got := plan.Right(p); got != (b.least <= n && n <= b.most) {
				t.Errorf("Right with %s %d = %v", b.name, n, got)
			}
		}
	}
}

// P10.1: all numbers at their least, and at their most.
func TestRightAtBothEnds(t *testing.T) {
	least, most := api.Plan{Up: []int{-1, 0}, Lease: 7}, api.Plan{Up: []int{-1, 0, 1, 2, 3}, Lease: 1000}
	for _, b := range bounds() {
		*b.field(&least), *b.field(&most) = b.least, b.most
	}
	if !plan.Right(least) || !plan.Right(most) {
		t.Errorf("Right of the least %v, of the most %v", plan.Right(least), plan.Right(most))
	}
}

// P10.1: Lease is above what the greatest depth and Wait ask, and at most 1000.
func TestRightOfLease(t *testing.T) {
	for most, shapes := range [][][]int{
		1: {{-1, 0}, {-1, 0, 0, 0}},
		2: {{-1, 0, 1}, {-1, 0, 1, 0}, {-1, 0, 0, 1, 0}},
		3: {{-1, 0, 1, 2}, {-1, 0, 1, 2, 0, 0}},
		4: {{-1, 0, 1, 2, 3}, {-1, 0, 1, 2, 3, 0}, {-1, 0, 0, 0, 2, 1, 5, 6, 4}},
	} {
		for _, ups := range shapes {
			for wait := 1; wait <= 8; wait++ {
				p := shaped(ups...)
				p.Wait = wait
				for lease := -3; lease <= 1003; lease++ {
					p.Lease = lease
					if got := plan.Right(p); got != (lease > 2*most*(wait+2) && lease <= 1000) {
						t.Fatalf("Right of %v with Wait %d, Lease %d = %v", ups, wait, lease, got)
					}
				}
			}
		}
	}
	for _, lease := range []int{math.MinInt, math.MinInt + 1, -1 << 32, 1 << 32, 1<<32 + 100, math.MaxInt - 1, math.MaxInt} {
		p := known()
		p.Lease = lease
		if plan.Right(p) {
			t.Errorf("Right with Lease %d", lease)
		}
	}
}

// P10.1: a Wait with which the least Lease would wrap may not be, whatever Lease is.
func TestRightOfWraps(t *testing.T) {
	for _, wait := range []int{math.MinInt, math.MinInt + 1, math.MinInt / 2, math.MaxInt / 2, math.MaxInt/4 + 1, math.MaxInt - 2, math.MaxInt - 1, math.MaxInt, -2, -3} {
		for _, lease := range []int{-1, 0, 1, 2, 100, 999, 1000} {
			for _, ups := range [][]int{{-1, 0}, {-1, 0, 1}, {-1, 0, 1, 2, 3}} {
				p := shaped(ups...)
				p.Wait, p.Lease = wait, lease
				if plan.Right(p) {
					t.Errorf("Right of %v with Wait %d, Lease %d", ups, wait, lease)
				}
			}
		}
	}
}

// P10.1: Window is Quota and 2 for each device, whatever Quota is; it goes round as numbers do.
func TestWindow(t *testing.T) {
	for quota, want := range map[int]int{1: 9, 2: 12, 8: 30, 0: 6, -1: 3, -2: 0, -5: -9, 1 << 32: 3<<32 + 6} {
		p := known()
		p.Quota = quota
		if got := plan.Window(p); got != want {
			t.Errorf("Window with Quota %d = %d", quota, got)
		}
	}
	one, none := shaped(-1, 0), shaped(-1)
	one.Quota, none.Quota = math.MaxInt, math.MaxInt
	if plan.Window(one) != math.MinInt+1 || plan.Window(none) != 0 {
		t.Errorf("Window with the greatest Quota: of one device %d, of none %d", plan.Window(one), plan.Window(none))
	}
}

// P10.1: Kids, Kind, Devices and the like hang on the parents alone, not on numbers that may not be.
func TestNumbersAside(t *testing.T) {
	for _, n := range []int{math.MinInt, -1, 0, math.MaxInt} {
		words(t, api.Plan{Up: known().Up, Quota: n, Room: n, Batch: n, Lease: n, Wait: n, Chunk: n, Keep: n, Ids: n}, asked(5))
	}
}

// P10.2: of a plan that may be all nodes are below the root, and it is below itself alone.
func TestAllBelowTheRoot(t *testing.T) {
	l := slices.Concat(few(), drawn(), rising(7))
	seen := 0
	for _, p := range l {
		if !plan.Right(p) {
			continue
		}
		seen++
		for node := range p.Up {
			if !plan.Below(p, node, 0) || plan.Below(p, 0, node) != (node == 0) {
				t.Fatalf("%v: %d", p.Up, node)
			}
		}
	}
	if seen < 5000 {
		t.Errorf("only %d", seen)
	}
}

// What follows: in a plan that may be each node is of one kind, each but the root the kid of one, and one deeper than that.
func TestTogether(t *testing.T) {
	for _, p := range drawn() {
		if !plan.Right(p) {
			continue
		}
		times := make([]int, len(p.Up))
		for node := range p.Up {
			for _, kid := range plan.Kids(p, node) {
				times[kid]++
				if plan.Deep(p, kid) != plan.Deep(p, node)+1 || !plan.Below(p, kid, node) || plan.Below(p, node, kid) {
					t.Fatalf("%v: %d below %d", p.Up, kid, node)
				}
			}
			if (plan.Kind(p, node) == deviceKind) != slices.Contains(plan.Devices(p), node) {
				t.Fatalf("%v: %d is %d", p.Up, node, plan.Kind(p, node))
			}
		}
		if times[0] != 0 || slices.Min(append(times[1:], 1)) != 1 || slices.Max(times) != 1 {
			t.Fatalf("%v: kids so often: %v", p.Up, times)
		}
	}
}

// P1: each call ends soon, of a plan of very many nodes, too.
func TestOfVeryMany(t *testing.T) {
	const n = 1 << 20
	for i, p := range []api.Plan{chain(n), star(n - 1), {Up: make([]int, n)}, {Up: slices.Repeat([]int{math.MaxInt}, n)}} {
		deep, devs, kids := []int{n - 1, 1, 1, 0}[i], []int{1, n - 1, n - 1, n - 1}[i], []int{1, n - 1, n - 1, 0}[i]
		if plan.Right(p) || plan.Deepest(p) != deep || plan.Deep(p, n-1) != deep || len(plan.Devices(p)) != devs || len(plan.Kids(p, 0)) != kids {
			t.Errorf("%d: Right %v, Deepest %d, Devices %d, Kids %d", i, plan.Right(p), plan.Deepest(p), len(plan.Devices(p)), len(plan.Kids(p, 0)))
		}
		if plan.Below(p, n-1, 0) != (i < 3) || plan.Kind(p, n-1) != deviceKind || plan.Window(p) != (p.Quota+2)*devs {
			t.Errorf("%d: Below %v, Kind %d, Window %d", i, plan.Below(p, n-1, 0), plan.Kind(p, n-1), plan.Window(p))
		}
	}
}

// Rule 3: what is handed in stays as it was, its spare room too, and an answer is new memory.
func TestMemory(t *testing.T) {
	for _, p := range append(drawn()[:500], known(), lame()) {
		all := append(slices.Clone(p.Up), 77, 77, 77)
		was := slices.Clone(all)
		p.Up = all[:len(p.Up)]
		plan.Right(p)
		plan.Deepest(p)
		plan.Window(p)
		for _, node := range asked(len(p.Up)) {
			plan.Deep(p, node)
			plan.Kind(p, node)
			plan.Below(p, node, 0)
			l := plan.Kids(p, node)
			clear(l[:cap(l)])
		}
		l := plan.Devices(p)
		clear(l[:cap(l)])
		if !slices.Equal(all, was) {
			t.Fatalf("%v is changed: %v", was, all)
		}
		if got := plan.Devices(p); !slices.Equal(got, devices(p)) {
			t.Fatalf("Devices(%v) has become %v", p.Up, got)
		}
		if got := plan.Kids(p, 0); !slices.Equal(got, kids(p, 0)) {
			t.Fatalf("Kids(%v, 0) has become %v", p.Up, got)
		}
	}
}

// Rule 4: a call hangs on its arguments alone, not on what was asked ahead of it.
func TestAgain(t *testing.T) {
	l := drawn()
	for i, p := range l {
		is, devs := plan.Right(p), plan.Devices(p)
		plan.Right(l[(i+1)%len(l)])
		plan.Devices(l[(i+2)%len(l)])
		p.Up = slices.Clone(p.Up)
		if plan.Right(p) != is || !slices.Equal(plan.Devices(p), devs) {
			t.Fatalf("Right(%v) = %v, Devices %v, then others", p.Up, is, devs)
		}
	}
}
