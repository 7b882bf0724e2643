package past_test

import (
	"cmp"
	"math"
	"math/rand"
	"slices"
	"testing"

	"bargeman/api"
	"bargeman/move"
	"bargeman/op"
	"bargeman/past"
)

// The document's limits, written out: the tests shall not follow a limit that is changed.
const (
	first    = 2
	ids      = 64
	devices  = 12
	maxCount = 1 << 40
	mostOps  = 4096
)

// words answers the past of base and t with the operations l, as the chapter's words tell it.
func words(base []api.Place, t int, l []api.Op) api.Past {
	l = slices.Clone(l)
	slices.SortFunc(l, func(a, b api.Op) int {
		return cmp.Or(cmp.Compare(a.At.C, b.At.C), cmp.Compare(a.At.Dev, b.At.Dev))
	})
	now, undos := move.Fold(base, l)
	return api.Past{Base: base, T: t, Ops: l, Undos: undos, Now: now}
}

// settled answers p with what has a counter up to t in its base, as the words tell it, for a t above p's.
func settled(p api.Past, t int) api.Past {
	var in, out []api.Op
	for _, o := range p.Ops {
		if o.At.C <= t {
			in = append(in, o)
		} else {
			out = append(out, o)
		}
	}
	base, _ := move.Fold(p.Base, in)
	return words(base, t, out)
}

// equal tells whether a and b are the same; a list that holds nothing may be nil or empty.
func equal(a, b api.Past) bool {
	return a.T == b.T && slices.Equal(a.Base, b.Base) && slices.Equal(a.Ops, b.Ops) &&
		slices.Equal(a.Undos, b.Undos) && slices.Equal(a.Now, b.Now)
}

// to answers a move of node to below up, at a moment.
func to(c, dev, node, up int) api.Op {
	return api.Op{At: api.Stamp{C: c, Dev: dev}, Inc: 1, Num: 1, Node: node, Up: up, Name: "a"}
}

// all is every node that may have a place, each below up of it.
func all(up func(node int) int) []api.Place {
	var t []api.Place
	for node := first; node < ids; node++ {
		t = append(t, api.Place{Node: node, Up: up(node), Name: "x"})
	}
	return t
}

// bases is trees of all sizes: none, few nodes, all of them in one way, and all side by side.
func bases() [][]api.Place {
	return [][]api.Place{
		nil,
		{},
		{{Node: 2, Up: 0, Name: "a"}, {Node: 3, Up: 2, Name: "b"}, {Node: 5, Up: 1, Name: "0123456789abcdef"}},
		all(func(node int) int { return (node + 1) % ids }),
		all(func(int) int { return 0 }),
	}
}

// drawn is n operations of n moments, with counters from t + 1 on, in any order; few nodes make many that do nothing.
func drawn(draw *rand.Rand, n, t, most int) []api.Op {
	names := []string{"a", "b", "!", "}", "0123456789abcdef"}
	seen := map[api.Stamp]bool{}
	var l []api.Op
	for len(l) < n {
		o := to(t+1+draw.Intn(2+n/4), draw.Intn(devices), draw.Intn(most), draw.Intn(most))
		o.Inc, o.Num, o.Name = 1+draw.Intn(3), 1+len(l), names[draw.Intn(len(names))]
		if op.Right(o) && !seen[o.At] {
			seen[o.At] = true
			l = append(l, o)
		}
	}
	return l
}

// start is what a past is made of.
type start struct {
	base []api.Place
	t    int
	l    []api.Op
}

// starts is such of all sizes, from nothing on, at both ends of the counters and between.
func starts() []start {
	draw := rand.New(rand.NewSource(8))
	counters := []int{0, 1, 7, 63, 1 << 20, 1 << 32, maxCount - 14}
	var l []start
	for i := range 400 {
		base, t := bases()[i%len(bases())], counters[i%len(counters)]
		l = append(l, start{base, t, drawn(draw, i%48, t, 4+i%(ids-3))})
	}
	return l
}

// pasts is those that the starts make.
func pasts() []api.Past {
	l := []api.Past{{}, {T: maxCount}, words(bases()[2], maxCount, nil)}
	for _, s := range starts() {
		l = append(l, words(s.base, s.t, s.l))
	}
	return l
}

// add wants that Add of o to p tells what the words tell, and answers that.
func add(t *testing.T, p api.Past, o api.Op) (api.Past, bool) {
	t.Helper()
	want, may := p, true
	if o.At.C <= p.T || slices.ContainsFunc(p.Ops, func(x api.Op) bool { return x.At == o.At }) {
		may = false
	} else {
		want = words(p.Base, p.T, append(slices.Clone(p.Ops), o))
	}
	q, is := past.Add(p, o)
	if is != may || !equal(q, want) {
		t.Fatalf("Add(%v, %v) = %v, %v, not %v, %v", p, o, q, is, want, may)
	}
	if !past.Right(q) {
		t.Fatalf("Add(%v, %v) = %v: no past", p, o, q)
	}
	return q, is
}

// settle wants that Settle of p up to n tells what the words tell, and answers that.
func settle(t *testing.T, p api.Past, n int) api.Past {
	t.Helper()
	want := p
	if n > p.T {
		want = settled(p, n)
	}
	q := past.Settle(p, n)
	if !equal(q, want) {
		t.Fatalf("Settle(%v, %d) = %v, not %v", p, n, q, want)
	}
	if !past.Right(q) {
		t.Fatalf("Settle(%v, %d) = %v: no past", p, n, q)
	}
	return q
}

// P8.1: the chapter's example, by hand.
func TestExample(t *testing.T) {
	late, other := to(2, 1, 3, 2), to(1, 1, 2, 3)
	p, a := past.Add(api.Past{}, late)
	p, b := past.Add(p, other)
	want := api.Past{
		Ops:   []api.Op{other, late},
		Undos: []api.Undo{{Did: true}, {}},
		Now:   []api.Place{{Node: 2, Up: 3, Name: "a"}},
	}
	if !a || !b || !equal(p, want) || !past.Right(p) {
		t.Errorf("%v, %v, %v", p, a, b)
	}
}

// P8.1: Add, by hand: behind all, ahead of all, between, at the edges of T, at a moment that there is.
func TestAddOfKnown(t *testing.T) {
	base := []api.Place{{Node: 2, Up: 0, Name: "b"}}
	one, two := to(6, 3, 3, 2), to(8, 3, 2, 0)
	p := words(base, 5, []api.Op{one, two})
	cases := []struct {
		what string
		o    api.Op
		want []api.Op
	}{
		{"ahead", to(6, 2, 9, 0), []api.Op{to(6, 2, 9, 0), one, two}},
		{"of the same counter, and a greater device", to(6, 4, 9, 0), []api.Op{one, to(6, 4, 9, 0), two}},
		{"between", to(7, 0, 9, 0), []api.Op{one, to(7, 0, 9, 0), two}},
		{"of the same counter, and a lower device", to(8, 0, 9, 0), []api.Op{one, to(8, 0, 9, 0), two}},
		{"behind", to(8, 11, 9, 0), []api.Op{one, two, to(8, 11, 9, 0)}},
		{"at the last counter", to(maxCount, 0, 9, 0), []api.Op{one, two, to(maxCount, 0, 9, 0)}},
		{"that does nothing", to(7, 3, 2, 3), []api.Op{one, to(7, 3, 2, 3), two}},
		{"by which those behind do nothing", to(6, 0, 2, 3), []api.Op{to(6, 0, 2, 3), one, two}},
		{"once more", one, nil},
		{"another one of the first moment", api.Op{At: one.At, Inc: 2, Num: 7, Node: 9, Name: "z"}, nil},
		{"another one of the last moment", api.Op{At: two.At, Inc: 2, Num: 7, Node: 9, Name: "z"}, nil},
		{"of T", to(5, 3, 9, 0), nil},
		{"of T, and the last device", to(5, 11, 9, 0), nil},
		{"below T", to(4, 3, 9, 0), nil},
		{"at the first counter", to(1, 0, 9, 0), nil},
	}
	for _, c := range cases {
		want := p
		if c.want != nil {
			now, undos := move.Fold(base, c.want)
			want = api.Past{Base: base, T: 5, Ops: c.want, Undos: undos, Now: now}
		}
		if q, is := past.Add(p, c.o); is != (c.want != nil) || !equal(q, want) {
			t.Errorf("%s: %v, %v", c.what, q, is)
		}
	}
}

// P8.1: at T 0 the first counter isn't too late; at MaxCount all are; one below it, just the last counter isn't.
func TestAddAtTheEnds(t *testing.T) {
	if q, is := add(t, api.Past{}, to(1, 0, 2, 0)); !is || len(q.Ops) != 1 {
		t.Errorf("at 0: %v, %v", q, is)
	}
	for _, c := range []int{1, 2, maxCount - 1, maxCount} {
		if q, is := add(t, api.Past{T: maxCount}, to(c, 11, 2, 0)); is || len(q.Ops) != 0 || q.T != maxCount {
			t.Errorf("%d at the end: %v, %v", c, q, is)
		}
		if q, is := add(t, api.Past{T: maxCount - 1}, to(c, 0, 2, 0)); is != (c == maxCount) || q.T != maxCount-1 {
			t.Errorf("%d one below the end: %v, %v", c, q, is)
		}
	}
}

// P8.1: Add of many to pasts of all sizes: at moments ahead of T, among those that there are, and behind.
func TestAdd(t *testing.T) {
	draw := rand.New(rand.NewSource(8))
	ahead, among, behind, refused := 0, 0, 0, 0
	for _, p := range pasts() {
		for range 12 {
			o := drawn(draw, 1, 0, 4+draw.Intn(ids-3))[0]
			o.At.C = min(maxCount, max(1, p.T-2+draw.Intn(6+len(p.Ops)/4)))
			q, is := add(t, p, o)
			at := slices.Index(q.Ops, o)
			switch {
			case !is:
				refused++
			case at == 0:
				ahead++
			case at == len(q.Ops)-1:
				behind++
			default:
				among++
			}
		}
		for i, o := range p.Ops {
			if _, is := add(t, p, o); is {
				t.Fatalf("operation %d of %v is taken once more", i, p)
			}
		}
	}
	if min(ahead, among, behind, refused) < 100 {
		t.Errorf("%d ahead, %d among, %d behind, %d refused", ahead, among, behind, refused)
	}
}

// P8.1: a past has no bound of operations, but in bytes that are read.
func TestAddToMany(t *testing.T) {
	var l []api.Op
	for c := 1; c <= mostOps; c++ {
		l = append(l, to(2*c, c%devices, first+c%7, first+(c+1)%7))
	}
	p := words(nil, 0, l)
	for _, c := range []int{1, mostOps + 1, 2*mostOps + 1} {
		if q, is := add(t, p, to(c, 3, 2, 0)); !is || len(q.Ops) != mostOps+1 {
			t.Errorf("at %d: %v, and %d operations", c, is, len(q.Ops))
		}
	}
}

// P8.1: Settle, by hand: nothing up to T; above it all counters up to t, of whatever device; T is t, also where nothing settles.
func TestSettleOfKnown(t *testing.T) {
	base := []api.Place{{Node: 9, Up: 1, Name: "b"}}
	l := []api.Op{to(6, 0, 2, 0), to(6, 11, 3, 2), to(8, 0, 2, 3), to(9, 5, 3, 0)}
	p := words(base, 4, l)
	two, three := api.Place{Node: 2, Up: 0, Name: "a"}, api.Place{Node: 3, Up: 2, Name: "a"}
	third, fourth := api.Undo{}, api.Undo{Was: three, Had: true, Did: true}
	now := []api.Place{two, {Node: 3, Up: 0, Name: "a"}, base[0]}
	cases := []struct {
		t    int
		want api.Past
	}{
		{math.MinInt, p}, {-1, p}, {0, p}, {3, p}, {4, p},
		{5, api.Past{Base: base, T: 5, Ops: l, Undos: p.Undos, Now: now}},
		{6, api.Past{Base: []api.Place{two, three, base[0]}, T: 6, Ops: l[2:], Undos: []api.Undo{third, fourth}, Now: now}},
		{7, api.Past{Base: []api.Place{two, three, base[0]}, T: 7, Ops: l[2:], Undos: []api.Undo{third, fourth}, Now: now}},
		{8, api.Past{Base: []api.Place{two, three, base[0]}, T: 8, Ops: l[3:], Undos: []api.Undo{fourth}, Now: now}},
		{9, api.Past{Base: now, T: 9, Now: now}},
		{maxCount, api.Past{Base: now, T: maxCount, Now: now}},
	}
	for _, c := range cases {
		if q := past.Settle(p, c.t); !equal(q, c.want) {
			t.Errorf("at %d: %v, not %v", c.t, q, c.want)
		}
	}
	if q := past.Settle(api.Past{}, maxCount); !equal(q, api.Past{T: maxCount}) {
		t.Errorf("of nothing: %v", q)
	}
}

// P8.1: Settle of pasts of all sizes, at each counter that they have, around it, and at the ends.
func TestSettle(t *testing.T) {
	for _, p := range pasts() {
		nums := []int{math.MinInt, -1, 0, 1, p.T - 1, p.T, p.T + 1, maxCount - 1, maxCount}
		for _, o := range p.Ops {
			nums = append(nums, o.At.C-1, o.At.C, o.At.C+1)
		}
		slices.Sort(nums)
		for _, n := range slices.Compact(nums) {
			if n <= maxCount {
				settle(t, p, n)
			}
		}
	}
}

// P8.1: Own and Of, by hand: by the device and its life, not by whatever else an operation has.
func TestOwnOfKnown(t *testing.T) {
	var p api.Past
	for i, x := range [][2]int{{1, 1}, {2, 1}, {1, 2}, {1, 1}, {0, 1}, {11, maxCount}, {1, 2}, {1, 1}} {
		o := to(i+1, x[0], 5, 0)
		o.Inc, o.Num = x[1], 9-i
		p, _ = past.Add(p, o)
	}
	cases := []struct{ dev, inc, own, of int }{
		{1, 1, 3, 5}, {1, 2, 2, 5}, {1, 3, 0, 5}, {1, 0, 0, 5}, {2, 1, 1, 1}, {2, 2, 0, 1}, {0, 1, 1, 1},
		{11, maxCount, 1, 1}, {11, 1, 0, 1}, {5, 1, 0, 0}, {12, 1, 0, 0}, {-1, 1, 0, 0},
		{1, -1, 0, 5}, {math.MaxInt, math.MaxInt, 0, 0}, {math.MinInt, math.MinInt, 0, 0},
	}
	for _, c := range cases {
		if own, of := past.Own(p, c.dev, c.inc), past.Of(p, c.dev); own != c.own || of != c.of {
			t.Errorf("device %d, life %d: %d and %d", c.dev, c.inc, own, of)
		}
	}
	p = past.Settle(p, 4)
	if past.Own(p, 1, 1) != 1 || past.Own(p, 1, 2) != 1 || past.Of(p, 1) != 2 || past.Of(p, 2) != 0 {
		t.Errorf("what is settled counts: %v", p)
	}
	if past.Own(api.Past{}, 0, 0) != 0 || past.Of(api.Past{}, 0) != 0 {
		t.Error("of nothing: not 0")
	}
}

// P8.1: Own and Of of pasts of all sizes.
func TestOwn(t *testing.T) {
	for _, p := range pasts() {
		of, own := map[int]int{}, map[[2]int]int{}
		for _, o := range p.Ops {
			of[o.At.Dev]++
			own[[2]int{o.At.Dev, o.Inc}]++
		}
		for dev := -1; dev <= devices; dev++ {
			if got := past.Of(p, dev); got != of[dev] {
				t.Fatalf("Of(%v, %d) = %d", p, dev, got)
			}
			for inc := range 5 {
				if got := past.Own(p, dev, inc); got != own[[2]int{dev, inc}] {
					t.Fatalf("Own(%v, %d, %d) = %d", p, dev, inc, got)
				}
			}
		}
	}
}

// nonBytes is what makes p none by what its bytes don't tell: undos and a tree that Fold doesn't tell.
func nonBytes(p api.Past) []api.Past {
	var l []api.Past
	undos := [][]api.Undo{append(slices.Clone(p.Undos), api.Undo{})}
	for i, u := range p.Undos {
		for _, x := range []api.Undo{
			{Was: u.Was, Had: u.Had, Did: !u.Did}, {Was: u.Was, Had: !u.Had, Did: u.Did},
			{Was: api.Place{Node: u.Was.Node + 1, Up: u.Was.Up, Name: u.Was.Name}, Had: u.Had, Did: u.Did},
			{Was: api.Place{Node: u.Was.Node, Up: u.Was.Up + 1, Name: u.Was.Name}, Had: u.Had, Did: u.Did},
			{Was: api.Place{Node: u.Was.Node, Up: u.Was.Up, Name: u.Was.Name + "z"}, Had: u.Had, Did: u.Did},
		} {
			undos = append(undos, slices.Concat(p.Undos[:i], []api.Undo{x}, p.Undos[i+1:]))
		}
		undos = append(undos, slices.Concat(p.Undos[:i], p.Undos[i+1:]))
	}
	for _, x := range undos {
		l = append(l, api.Past{Base: p.Base, T: p.T, Ops: p.Ops, Undos: x, Now: p.Now})
	}
	nows := [][]api.Place{append(slices.Clone(p.Now), api.Place{Node: 63, Up: 0, Name: "z"})}
	for i, x := range p.Now {
		y, z := slices.Clone(p.Now), slices.Clone(p.Now)
		y[i].Up, z[i].Name = x.Up+1, "z"
		nows = append(nows, y, z, slices.Concat(p.Now[:i], p.Now[i+1:]))
	}
	for _, x := range nows {
		l = append(l, api.Past{Base: p.Base, T: p.T, Ops: p.Ops, Undos: p.Undos, Now: x})
	}
	return l
}

// nonTrees is lists of places that are no trees.
func nonTrees() [][]api.Place {
	return [][]api.Place{
		{{}}, {{Node: 1, Name: "a"}}, {{Node: 64, Name: "a"}}, {{Node: 2, Up: -1, Name: "a"}}, {{Node: 2, Up: 64, Name: "a"}},
		{{Node: 2}}, {{Node: 2, Name: "a/b"}}, {{Node: 2, Name: "a~3"}}, {{Node: 2, Name: "0123456789abcdefg"}},
		{{Node: 2, Up: 2, Name: "a"}}, {{Node: 2, Up: 3, Name: "a"}, {Node: 3, Up: 2, Name: "b"}},
		{{Node: 3, Name: "a"}, {Node: 2, Name: "b"}}, {{Node: 2, Name: "a"}, {Node: 2, Name: "a"}},
	}
}

// nonOps is operations that may not be: by each of their fields.
func nonOps(at api.Stamp) []api.Op {
	l := slices.Repeat([]api.Op{{At: at, Inc: 1, Num: 1, Node: 5, Name: "a"}}, 16)
	l[0].At.C, l[1].At.C, l[2].At.C = maxCount+1, 0, -1
	l[3].At.Dev, l[4].At.Dev = -1, devices
	l[5].Inc, l[6].Inc, l[7].Num, l[8].Num = 0, maxCount+1, 0, maxCount+1
	l[9].Node, l[10].Node, l[11].Up, l[12].Up, l[13].Up = 1, ids, -1, ids, 5
	l[14].Name, l[15].Name = "", "a~1"
	return l
}

// nonPasts is what is none by its base, its counter, or its operations: p with one of them, or two, made another one.
func nonPasts(p api.Past) []api.Past {
	var l []api.Past
	for _, base := range nonTrees() {
		l = append(l, words(base, p.T, p.Ops))
	}
	for _, n := range []int{math.MinInt, -1, maxCount + 1, math.MaxInt} {
		l = append(l, api.Past{Base: p.Base, T: n, Ops: p.Ops, Undos: p.Undos, Now: p.Now})
		l = append(l, api.Past{Base: p.Base, T: n, Now: p.Base})
	}
	lists := [][]api.Op{}
	for i, o := range p.Ops {
		for _, n := range []int{o.At.C, o.At.C + 1, maxCount} {
			l = append(l, api.Past{Base: p.Base, T: n, Ops: p.Ops, Undos: p.Undos, Now: p.Now})
		}
		for _, x := range nonOps(o.At) {
			lists = append(lists, slices.Concat(p.Ops[:i], []api.Op{x}, p.Ops[i+1:]))
		}
		twin := to(o.At.C, o.At.Dev, 7, 0)
		lists = append(lists, slices.Insert(slices.Clone(p.Ops), i, twin), slices.Insert(slices.Clone(p.Ops), i+1, o))
		if i > 0 {
			x := slices.Clone(p.Ops)
			x[i-1], x[i] = x[i], x[i-1]
			lists = append(lists, x)
		}
	}
	for _, x := range lists {
		now, undos := move.Fold(p.Base, x)
		l = append(l, api.Past{Base: p.Base, T: p.T, Ops: x, Undos: undos, Now: now})
	}
	return l
}

// some is a few pasts with some operations each, of one counter and of many, with such that did something, and such that didn't.
func some() []api.Past {
	base := []api.Place{{Node: 2, Up: 0, Name: "b"}, {Node: 3, Up: 2, Name: "c"}}
	return []api.Past{
		words(nil, 0, []api.Op{to(1, 0, 2, 0)}),
		words(base, 0, []api.Op{to(1, 11, 2, 3), to(2, 0, 9, 3), to(2, 1, 9, 0)}),
		words(base, 5, []api.Op{to(6, 0, 2, 1), to(6, 1, 4, 2), to(6, 2, 2, 4), to(6, 11, 4, 1)}),
		words(base, maxCount-1, []api.Op{to(maxCount, 3, 3, 0), to(maxCount, 4, 2, 3)}),
		words(bases()[3], 1<<32, []api.Op{to(1<<32+1, 5, 63, 2), to(1<<32+1, 6, 63, 1), to(1<<33, 0, 2, 1)}),
	}
}

// P8.1: Right of pasts; a list that holds nothing may be nil or empty.
func TestRight(t *testing.T) {
	for _, p := range append(pasts(), some()...) {
		if !past.Right(p) {
			t.Fatalf("Right(%v) = false", p)
		}
	}
	if !past.Right(api.Past{Base: []api.Place{}, Ops: []api.Op{}, Undos: []api.Undo{}, Now: []api.Place{}}) {
		t.Error("empty lists: not right")
	}
	for _, base := range bases() {
		for _, n := range []int{0, 1, maxCount - 1, maxCount} {
			if p := (api.Past{Base: base, T: n, Now: base}); !past.Right(p) {
				t.Errorf("Right(%v) = false", p)
			}
		}
	}
	var l []api.Op
	for c := range mostOps + 900 {
		l = append(l, to(c+1, c%devices, first+c%7, first+(c+1)%7))
	}
	if !past.Right(words(nil, 0, l)) {
		t.Error("of many operations: not right")
	}
}

// P8.1: Right of what is none: by its base, its counter, its operations, its undos, or its tree.
func TestRightOfNone(t *testing.T) {
	for _, p := range some() {
		for _, q := range append(nonPasts(p), nonBytes(p)...) {
			if past.Right(q) {
				t.Errorf("Right(%v) = true", q)
			}
		}
	}
	for _, p := range nonBytes(words(bases()[2], 3, nil)) {
		if past.Right(p) {
			t.Errorf("without operations: Right(%v) = true", p)
		}
	}
}

// orders calls f with all orders of l.
func orders(l []api.Op, f func(l []api.Op)) {
	var from func(n int)
	from = func(n int) {
		if n == len(l) {
			f(l)
		}
		for i := n; i < len(l); i++ {
			l[n], l[i] = l[i], l[n]
			from(n + 1)
			l[n], l[i] = l[i], l[n]
		}
	}
	from(0)
}

// P8.3: operations that hinder one another, in all orders in which they may come.
func TestOrders(t *testing.T) {
	l := []api.Op{to(1, 0, 2, 3), to(1, 1, 3, 4), to(2, 0, 4, 2), to(3, 5, 3, 2), to(4, 0, 2, 1), to(4, 1, 4, 3)}
	for _, base := range bases() {
		want := words(base, 0, l)
		orders(slices.Clone(l), func(l []api.Op) {
			p := api.Past{Base: base, Now: base}
			for _, o := range l {
				p, _ = past.Add(p, o)
			}
			if !equal(p, want) {
				t.Fatalf("%v: %v, not %v", l, p, want)
			}
		})
	}
}

// P8.3: the same of operations of all kinds, one by one, each of them twice.
func TestOneByOne(t *testing.T) {
	for _, s := range starts() {
		p := api.Past{Base: s.base, T: s.t, Now: s.base}
		for i, o := range s.l {
			var is bool
			if p, is = past.Add(p, o); !is {
				t.Fatalf("operation %d of %v is not taken", i, s)
			}
			if p, is = past.Add(p, o); is {
				t.Fatalf("operation %d of %v is taken twice", i, s)
			}
		}
		if want := words(s.base, s.t, s.l); !equal(p, want) {
			t.Fatalf("%v: %v, not %v", s, p, want)
		}
	}
}

// P8.3: what is settled, and when, is of no account: the tree is that of all operations; and the rest that of one who settled at once.
func TestSettleBetween(t *testing.T) {
	draw := rand.New(rand.NewSource(8))
	for _, s := range starts() {
		l := slices.Clone(s.l)
		slices.SortStableFunc(l, func(a, b api.Op) int { return cmp.Compare(a.At.C/3, b.At.C/3) }) // in order but for a little
		p := api.Past{Base: s.base, T: s.t, Now: s.base}
		for i, o := range l {
			p, _ = add(t, p, o)
			least := maxCount
			for _, x := range l[i+1:] {
				least = min(least, x.At.C-1)
			}
			if draw.Intn(3) == 0 {
				p = settle(t, p, least-draw.Intn(3))
			}
		}
		want := words(s.base, s.t, s.l)
		if !slices.Equal(p.Now, want.Now) {
			t.Fatalf("%v: %v, not %v", s, p.Now, want.Now)
		}
		if p.T > s.t && !equal(p, settled(want, p.T)) {
			t.Fatalf("%v: %v, not %v", s, p, settled(want, p.T))
		}
	}
}

// P8.3: to settle twice is to settle once, as far as the greater one of both.
func TestSettleTwice(t *testing.T) {
	for i, p := range pasts() {
		a, b := min(maxCount, p.T+i%15-1), min(maxCount, p.T+i%11-1)
		if x, y := past.Settle(past.Settle(p, a), b), past.Settle(p, max(a, b)); !equal(x, y) {
			t.Fatalf("%v at %d, then at %d: %v, not %v", p, a, b, x, y)
		}
	}
}

// roomy is l with spare room that holds mark; whole tells whether all of it still is as it was.
func roomy[E comparable](l []E, mark E) (list []E, whole func() bool) {
	all := append(slices.Clone(l), mark, mark, mark)
	was := slices.Clone(all)
	return all[:len(l)], func() bool { return slices.Equal(all, was) }
}

// spoil writes mark over all of l, and behind it.
func spoil[E any](l []E, mark E) {
	for i := range l {
		l[i] = mark
	}
	_ = append(l, mark, mark)
}

// markPlace, markOp and markUndo are what no past has.
var (
	markPlace = api.Place{Node: -7, Up: -8, Name: "mark"}
	markOp    = api.Op{Node: -7, Name: "mark"}
	markUndo  = api.Undo{Was: markPlace, Had: true, Did: true}
)

// roomyPast is p with spare room in all of its lists.
func roomyPast(p api.Past) (api.Past, func() bool) {
	base, a := roomy(p.Base, markPlace)
	ops, b := roomy(p.Ops, markOp)
	undos, c := roomy(p.Undos, markUndo)
	now, d := roomy(p.Now, markPlace)
	return api.Past{Base: base, T: p.T, Ops: ops, Undos: undos, Now: now}, func() bool { return a() && b() && c() && d() }
}

// spoilPast spoils all lists of p; it wants that Base and Now share no memory.
func spoilPast(t *testing.T, p api.Past) {
	t.Helper()
	now := slices.Clone(p.Now)
	spoil(p.Ops, markOp)
	spoil(p.Undos, markUndo)
	spoil(p.Base, markPlace)
	if !slices.Equal(p.Now, now) {
		t.Fatal("Base and Now of an answer share memory")
	}
	spoil(p.Now, markPlace)
}

// Rule 3: what is handed in stays, its spare room too; an answer is new memory, also where it is p.
func TestNothingIsChanged(t *testing.T) {
	draw := rand.New(rand.NewSource(8))
	for _, p := range pasts() {
		x, whole := roomyPast(p)
		ops := []api.Op{to(min(p.T+1, maxCount), draw.Intn(devices), 2, 0), to(maxCount, 0, 3, 0), to(1, 5, 2, 0)}
		if len(p.Ops) > 0 {
			ops = append(ops, p.Ops[0], p.Ops[len(p.Ops)/2])
		}
		for _, o := range ops {
			q, _ := past.Add(x, o)
			if !whole() {
				t.Fatalf("Add(%v, %v) changed what was handed in", p, o)
			}
			spoilPast(t, q)
			if !whole() {
				t.Fatalf("Add(%v, %v): the answer is no new memory", p, o)
			}
		}
		for _, n := range []int{0, p.T, min(p.T+1, maxCount), min(p.T+3, maxCount), maxCount} {
			q := past.Settle(x, n)
			if !whole() {
				t.Fatalf("Settle(%v, %d) changed what was handed in", p, n)
			}
			spoilPast(t, q)
			if !whole() {
				t.Fatalf("Settle(%v, %d): the answer is no new memory", p, n)
			}
		}
		past.Right(x)
		past.Print(x)
		past.Own(x, 1, 1)
		past.Of(x, 1)
		if !whole() {
			t.Fatalf("%v is changed by what only asks", p)
		}
	}
}

// Rule 3: an answer stays, whatever is made of it.
func TestAnswersStay(t *testing.T) {
	a, _ := past.Add(words(bases()[4], 0, nil), to(5, 1, 9, 2))
	b, _ := past.Add(a, to(6, 1, 2, 9))
	c, _ := past.Add(a, to(4, 1, 2, 9))
	d := past.Settle(b, 5)
	e, _ := past.Add(b, to(7, 1, 9, 0))
	base := bases()[4]
	for i, x := range [][2]api.Past{
		{a, words(base, 0, []api.Op{to(5, 1, 9, 2)})},
		{b, words(base, 0, []api.Op{to(5, 1, 9, 2), to(6, 1, 2, 9)})},
		{c, words(base, 0, []api.Op{to(4, 1, 2, 9), to(5, 1, 9, 2)})},
		{d, words(a.Now, 5, []api.Op{to(6, 1, 2, 9)})},
		{e, words(base, 0, []api.Op{to(5, 1, 9, 2), to(6, 1, 2, 9), to(7, 1, 9, 0)})},
	} {
		if !equal(x[0], x[1]) {
			t.Errorf("%d has become %v", i, x[0])
		}
	}
}

// raws is what is no past, and no operation of one, in all ways.
func raws() []api.Past {
	ops := append(nonOps(api.Stamp{C: 3, Dev: 2}), to(9, 1, 2, 3), to(2, 1, 3, 2), api.Op{}, api.Op{At: api.Stamp{C: math.MinInt, Dev: math.MaxInt}})
	undos := []api.Undo{{}, {Did: true}, {Was: markPlace, Had: true, Did: true}, {Was: api.Place{Node: 2, Up: 2}, Had: true, Did: true}}
	var l []api.Past
	for i, t := range append(nonTrees(), nil, slices.Repeat([]api.Place{{Node: 2, Up: 3}, {Node: 3, Up: 2}}, 100)) {
		for _, n := range []int{math.MinInt, -1, 0, 3, maxCount + 1, math.MaxInt} {
			l = append(l, api.Past{Base: t, T: n, Ops: ops[i:], Undos: undos[i%4:], Now: t})
			l = append(l, api.Past{Base: t, T: n, Ops: ops[i:], Undos: slices.Repeat(undos, 5)[i:], Now: t})
			l = append(l, api.Past{T: n, Undos: undos, Now: t}, api.Past{Base: t, T: n, Ops: ops})
		}
	}
	return l
}

// P1: each call ends, and none panics, of whatever is handed in.
func TestAnythingEnds(t *testing.T) {
	for _, p := range raws() {
		if past.Right(p) {
			t.Errorf("Right(%v) = true", p)
		}
		past.Print(p)
		for _, n := range []int{math.MinInt, -1, 0, 1, 2, 12, math.MaxInt} {
			past.Own(p, n, n)
			past.Of(p, n)
			past.Settle(p, n)
			past.Add(p, to(n, n, 2, 3))
			past.Add(p, to(maxCount, n, n, n))
		}
	}
}
