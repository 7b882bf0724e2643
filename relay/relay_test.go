package relay_test

import (
	"math"
	"reflect"
	"testing"

	"bargeman/api"
	"bargeman/relay"
)

// The document's numbers, written out: the tests shall not follow one that is changed.
const (
	live      = 1
	joining   = 2
	mostCount = 1 << 40
)

// edges is numbers around all bounds, and around those at which a smaller kind of number would wrap.
func edges() []int {
	l := []int{math.MinInt, math.MinInt + 1, math.MaxInt - 1, math.MaxInt}
	for n := -3; n < 15; n++ {
		l = append(l, n)
	}
	for _, n := range []int{64, 1 << 8, 1 << 16, 1 << 31, 1 << 32, mostCount, 1 << 53, 1 << 62} {
		l = append(l, n-1, n, n+1, n+2, -n-1, -n, -n+1)
	}
	return l
}

// fleet is a root, 0, with the relay 1 and the device 7 below it; below 1 the relays 2 and 3 and the device 6; the device 4 below 2, 5 and 8 below 3. So its Window is 15.
func fleet() api.Plan {
	return api.Plan{Up: []int{-1, 0, 1, 1, 2, 3, 1, 0, 3}, Quota: 1, Room: 4, Batch: 2, Lease: 40, Wait: 2, Chunk: 32, Keep: 4, Ids: 16}
}

// by is the num-th operation of dev in its life 1, at the counter c.
func by(c, dev, num int) api.Op {
	return api.Op{At: api.Stamp{C: c, Dev: dev}, Inc: 1, Num: num, Node: 2, Up: 0, Name: "a"}
}

// ops is n operations of dev, numbered from first on.
func ops(dev, first, n int) []api.Op {
	var l []api.Op
	for num := first; num < first+n; num++ {
		l = append(l, by(10*num, dev, num))
	}
	return l
}

// entries is those of a stream at the places from first on, n of them; each can be told from all others.
func entries(first, n int) []api.Entry {
	var l []api.Entry
	for place := first; place < first+n; place++ {
		switch place % 4 {
		case 0:
			l = append(l, api.Entry{Kind: 2, Dev: 4, Inc: place})
		case 1:
			l = append(l, api.Entry{Kind: 3, Dev: 4, Inc: place})
		default:
			l = append(l, api.Entry{Kind: 1, Op: by(place, 5, place)})
		}
	}
	return l
}

// there is the relay 1 in the midst of its work.
func there() api.State {
	return api.State{
		Node: 1, Boot: 3, Above: 7,
		Stream: api.Stream{S: 20, T: 11, Pos: 23, Entries: entries(21, 3)},
		Queue:  api.Queue{First: 6, Grant: 7, Ops: []api.Op{by(30, 4, 2), by(31, 6, 9), by(29, 4, 3)}},
		Kids:   []api.Kid{{Node: 2, Recv: 3, Pos: 21, Boot: 4}, {Node: 3, Recv: 0, Pos: 0, Boot: 0}, {Node: 6, Recv: 9, Pos: 23, Boot: 2}},
		Reports: []api.Report{
			{Dev: 4, Inc: 1, Boot: 2, Beat: 8, Mode: live, Pos: 20, Clock: 30, Sent: 3},
			{Dev: 5, Inc: 2, Boot: 1, Beat: 5, Mode: joining, Chunk: 1},
		},
		Gifts: []api.Gift{{Dev: 5, Inc: 2, Chunk: 1, Total: 3, Data: "five"}, {Dev: 6, Inc: 4, Chunk: 0, Total: 2, Data: "six"}},
	}
}

// bare is l, nil if it holds nothing.
func bare[T any](l []T) []T {
	if len(l) == 0 {
		return nil
	}
	return l
}

// plain is s with each list that holds nothing nil.
func plain(s api.State) api.State {
	s.Stream.Entries, s.Queue.Ops = bare(s.Stream.Entries), bare(s.Queue.Ops)
	s.Kids, s.Reports, s.Gifts = bare(s.Kids), bare(s.Reports), bare(s.Gifts)
	return s
}

// same tells whether two states are the same, part by part.
func same(a, b api.State) bool { return reflect.DeepEqual(plain(a), plain(b)) }

// alike tells whether two frames are the same, part by part.
func alike(a, b api.Frame) bool { return reflect.DeepEqual(plainFrame(a), plainFrame(b)) }

// plainFrame is f with each list that holds nothing nil.
func plainFrame(f api.Frame) api.Frame {
	f.Ops, f.Reports, f.Entries, f.Gifts = bare(f.Ops), bare(f.Reports), bare(f.Entries), bare(f.Gifts)
	return f
}

// The marks that stand in the spare room of lists.
var (
	markOp     = api.Op{Num: -77}
	markEntry  = api.Entry{Dev: -77}
	markKid    = api.Kid{Node: -77}
	markReport = api.Report{Dev: -77}
	markGift   = api.Gift{Dev: -77}
)

// copied is s in memory of its own, with marks in the spare room of each list.
func copied(s api.State) api.State {
	s.Stream.Entries, s.Queue.Ops = roomy(s.Stream.Entries, markEntry), roomy(s.Queue.Ops, markOp)
	s.Kids, s.Reports, s.Gifts = roomy(s.Kids, markKid), roomy(s.Reports, markReport), roomy(s.Gifts, markGift)
	return s
}

// untouched tells whether s, made by copied of was, is as it was, its spare room too.
func untouched(s, was api.State) bool {
	return same(s, was) && marked(s.Stream.Entries, markEntry) && marked(s.Queue.Ops, markOp) &&
		marked(s.Kids, markKid) && marked(s.Reports, markReport) && marked(s.Gifts, markGift)
}

// copiedFrame is f in memory of its own, with marks in the spare room of each list.
func copiedFrame(f api.Frame) api.Frame {
	f.Ops, f.Entries = roomy(f.Ops, markOp), roomy(f.Entries, markEntry)
	f.Reports, f.Gifts = roomy(f.Reports, markReport), roomy(f.Gifts, markGift)
	return f
}

// untouchedFrame tells whether f, made by copiedFrame of was, is as it was, its spare room too.
func untouchedFrame(f, was api.Frame) bool {
	return alike(f, was) && marked(f.Ops, markOp) && marked(f.Entries, markEntry) &&
		marked(f.Reports, markReport) && marked(f.Gifts, markGift)
}

// roomy is l in memory of its own, with three marks behind it.
func roomy[T any](l []T, mark T) []T {
	return append(append(make([]T, 0, len(l)+3), l...), mark, mark, mark)[:len(l)]
}

// marked tells whether the three marks still stand behind l.
func marked[T comparable](l []T, mark T) bool {
	for _, x := range l[len(l):cap(l)] {
		if x != mark {
			return false
		}
	}
	return cap(l) >= len(l)+3
}

// scribbleFrame writes over all that f's lists hold, and behind it.
func scribbleFrame(f api.Frame) {
	scribble(f.Ops, markOp)
	scribble(f.Entries, markEntry)
	scribble(f.Reports, markReport)
	scribble(f.Gifts, markGift)
}

// scribble writes over all that l holds, and behind it.
func scribble[T any](l []T, mark T) {
	l = l[:cap(l)]
	for i := range l {
		l[i] = mark
	}
}

// P19.1: a new relay, with its own kids alone, and nothing known of them.
func TestNew(t *testing.T) {
	for node, kids := range map[int][]int{0: {1, 7}, 1: {2, 3, 6}, 2: {4}, 3: {5, 8}, 4: nil, 8: nil} {
		want := api.State{Node: node, Boot: 1, Queue: api.Queue{First: 1}}
		for _, kid := range kids {
			want.Kids = append(want.Kids, api.Kid{Node: kid})
		}
		if s := relay.New(fleet(), node); !same(s, want) {
			t.Errorf("New of %d: %v", node, s)
		}
	}
}

// P19.1, DOC.md's rule 5: what is no node has no kids; neither has any node of no plan.
func TestNewOfNone(t *testing.T) {
	for _, node := range edges() {
		for _, ups := range [][]int{nil, {-1, 0, 1, 1, 0}} {
			if ups != nil && (node == 0 || node == 1) {
				continue
			}
			if s := relay.New(api.Plan{Up: ups}, node); !same(s, api.State{Node: node, Boot: 1, Queue: api.Queue{First: 1}}) {
				t.Errorf("New of %d, of %v: %v", node, ups, s)
			}
		}
	}
}

// P19.1: the place among the kids, not among the nodes; -1 of all others.
func TestKid(t *testing.T) {
	s := there()
	for _, node := range edges() {
		want := -1
		switch node {
		case 2:
			want = 0
		case 3:
			want = 1
		case 6:
			want = 2
		}
		if i := relay.Kid(s, node); i != want {
			t.Errorf("Kid of %d: %d", node, i)
		}
		if i := relay.Kid(api.State{}, node); i != -1 {
			t.Errorf("Kid of %d, of none: %d", node, i)
		}
	}
}

// P19.1: what goes down: the entries behind those that the kid has, or behind the stable place, at most Batch.
func TestDownEntries(t *testing.T) {
	s := there()
	for _, c := range []struct {
		pos, batch, start int
		want              []api.Entry
	}{
		{0, 2, 21, entries(21, 2)}, {19, 2, 21, entries(21, 2)}, {20, 2, 21, entries(21, 2)},
		{21, 2, 22, entries(22, 2)}, {22, 2, 23, entries(23, 1)}, {23, 2, 24, nil}, {24, 2, 25, nil}, {99, 2, 100, nil},
		{20, 8, 21, entries(21, 3)}, {20, 3, 21, entries(21, 3)}, {20, 1, 21, entries(21, 1)}, {20, 0, 21, nil}, {20, -5, 21, nil},
	} {
		p := fleet()
		p.Batch = c.batch
		want := api.Frame{From: 1, To: 6, Boot: 3, First: 1, Ack: 9, Grant: 11, S: 20, T: 11, Start: c.start, Entries: c.want}
		f := relay.Down(p, s, api.Kid{Node: 6, Recv: 9, Pos: c.pos, Boot: 2}, 2, nil)
		if !alike(f, want) {
			t.Errorf("from %d on, by %d: %v; not %v", c.pos, c.batch, f, want)
		}
	}
}

// P19.1: the grant is what was taken, and the room, which is 0 at least.
func TestDownGrant(t *testing.T) {
	for _, recv := range []int{0, 1, 9, 40, mostCount} {
		for _, room := range []int{math.MinInt, -9, -1, 0, 1, 2, 16, 4096} {
			f := relay.Down(fleet(), there(), api.Kid{Node: 2, Recv: recv}, room, nil)
			want := recv
			if room > 0 {
				want = recv + room
			}
			if f.Ack != recv || f.Grant != want || f.To != 2 {
				t.Errorf("%d taken, room %d: %v", recv, room, f)
			}
		}
	}
}

// P19.1: the gifts to what is the kid, or below it, devices or not, in their order; none of the others, nor of what is no node.
func TestDownGifts(t *testing.T) {
	var all []api.Gift
	for _, dev := range append(edges(), 8, 5, 3, 3) {
		all = append(all, api.Gift{Dev: dev, Inc: 3, Chunk: len(all), Total: 999, Data: "x"})
	}
	below := map[int][]int{2: {2, 4}, 3: {3, 5, 8}, 6: {6}, 7: {7}, 1: {1, 2, 3, 4, 5, 6, 8}, 0: {0, 1, 2, 3, 4, 5, 6, 7, 8}, 4: {4}, 9: nil, -1: nil}
	for kid, nodes := range below {
		var want []api.Gift
		for _, g := range all {
			for _, node := range nodes {
				if g.Dev == node {
					want = append(want, g)
				}
			}
		}
		f := relay.Down(fleet(), there(), api.Kid{Node: kid}, 0, all)
		if !alike(api.Frame{Gifts: f.Gifts}, api.Frame{Gifts: want}) {
			t.Errorf("to %d: %v", kid, f.Gifts)
		}
	}
}

// P19.1: all that goes: to the parent, then to each kid, in order.
func TestFrames(t *testing.T) {
	s := there()
	want := []api.Frame{
		{From: 1, To: 0, Boot: 3, First: 6, Ops: s.Queue.Ops[:2], Pos: 23, Reports: s.Reports, Start: 1},
		{From: 1, To: 2, Boot: 3, First: 1, Ack: 3, Grant: 4, S: 20, T: 11, Start: 22, Entries: entries(22, 2)},
		{From: 1, To: 3, Boot: 3, First: 1, Ack: 0, Grant: 1, S: 20, T: 11, Start: 21, Entries: entries(21, 2), Gifts: s.Gifts[:1]},
		{From: 1, To: 6, Boot: 3, First: 1, Ack: 9, Grant: 10, S: 20, T: 11, Start: 24, Gifts: s.Gifts[1:]},
	}
	l := relay.Frames(fleet(), s)
	if len(l) != len(want) {
		t.Fatalf("%d frames", len(l))
	}
	for i, f := range l {
		if !alike(f, want[i]) {
			t.Errorf("the frame %d: %v; not %v", i, f, want[i])
		}
	}
}

// P19.1: no more operations than were granted, and than Batch; Room less what the queue has is granted.
func TestFramesByNumbers(t *testing.T) {
	all := ops(4, 6, 6)
	for _, c := range []struct {
		grant, batch, room, n int
		ops                   []api.Op
		free                  int
	}{
		{0, 2, 4, 3, nil, 1}, {5, 2, 4, 3, nil, 1}, {6, 2, 4, 3, all[:1], 1}, {7, 2, 4, 3, all[:2], 1}, {99, 2, 4, 3, all[:2], 1},
		{99, 8, 4, 3, all[:3], 1}, {99, 8, 4, 4, all[:4], 0}, {99, 8, 4, 6, all[:6], 0}, {99, 8, 16, 0, nil, 16}, {99, 8, 1, 0, nil, 1},
		{99, 0, 4, 3, nil, 1}, {99, -1, -4, 3, nil, 0},
	} {
		p, s := fleet(), there()
		p.Batch, p.Room = c.batch, c.room
		s.Queue = api.Queue{First: 6, Grant: c.grant, Ops: all[:c.n]}
		l := relay.Frames(p, s)
		if l[0].First != 6 || !alike(api.Frame{Ops: l[0].Ops}, api.Frame{Ops: c.ops}) {
			t.Errorf("granted %d, by %d: %v", c.grant, c.batch, l[0])
		}
		for i, k := range s.Kids {
			if f := l[i+1]; f.Ack != k.Recv || f.Grant != k.Recv+c.free {
				t.Errorf("room %d, %d wait: %v", c.room, c.n, f)
			}
		}
	}
}

// P19.1: a new relay tells its kids and its parent that it has nothing.
func TestFramesOfNew(t *testing.T) {
	want := []api.Frame{{From: 3, To: 1, Boot: 1, First: 1, Start: 1}, {From: 3, To: 5, Boot: 1, First: 1, Grant: 4, Start: 1}, {From: 3, To: 8, Boot: 1, First: 1, Grant: 4, Start: 1}}
	for i, f := range relay.Frames(fleet(), relay.New(fleet(), 3)) {
		if !alike(f, want[i]) {
			t.Errorf("the frame %d: %v", i, f)
		}
	}
}

// DOC.md's rules 3 and 4: frames are new memory, hang on the state alone, and leave it as it is.
func TestFramesMemory(t *testing.T) {
	was := there()
	s := copied(was)
	want := relay.Frames(fleet(), was)
	for range 2 {
		l := relay.Frames(fleet(), s)
		for i, f := range l {
			if !alike(f, want[i]) {
				t.Errorf("the frame %d: %v; not %v", i, f, want[i])
			}
		}
		for _, f := range l {
			scribbleFrame(f)
		}
		if !untouched(s, was) {
			t.Fatalf("what was handed in is %v", s)
		}
	}
	l := roomy(was.Gifts, markGift)
	f := relay.Down(fleet(), s, s.Kids[1], 1, l)
	scribbleFrame(f)
	if !untouched(s, was) || !alike(api.Frame{Gifts: l}, api.Frame{Gifts: was.Gifts}) || !marked(l, markGift) {
		t.Errorf("what was handed in is %v, %v", s, l)
	}
}

// DOC.md's rule 5: calls end, and none panics, whatever the numbers.
func TestAnyNumbers(t *testing.T) {
	for _, n := range edges() {
		p := fleet()
		p.Batch, p.Room = n, n
		s := there()
		s.Kids[0].Pos = n
		for _, f := range relay.Frames(p, s) {
			if f.From != 1 || len(f.Ops) > max(n, 0) || len(f.Entries) > max(n, 0) {
				t.Errorf("by %d: %v", n, f)
			}
		}
		s.Node = n
		if l := relay.Frames(fleet(), s); len(l) != 4 || l[0].From != n || (n < 0 || n > 8) && l[0].To != 0 {
			t.Errorf("of %d: %v", n, l)
		}
	}
}
