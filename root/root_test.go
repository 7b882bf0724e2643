package root_test

import (
	"math"
	"reflect"
	"slices"
	"strings"
	"testing"

	"bargeman/api"
	"bargeman/move"
	"bargeman/root"
)

// The document's numbers, written out: the tests shall not follow one that is changed.
const (
	live      = 1
	joining   = 2
	mostCount = 1 << 40
)

// edges is numbers around all bounds, and around those at which a smaller kind of number would wrap.
func edges() []int {
	l := []int{math.MinInt, math.MinInt + 1, math.MaxInt - 1, math.MaxInt}
	for n := -3; n < 15; n++ {
		l = append(l, n)
	}
	for _, n := range []int{64, 1 << 8, 1 << 16, 1 << 31, 1 << 32, mostCount, 1 << 53, 1 << 62} {
		l = append(l, n-1, n, n+1, n+2, -n-1, -n, -n+1)
	}
	return l
}

// fleet is a root, 0, with the relay 1 and the devices 2 and 6 below it; below 1 the device 3 and the relay 4; below that the device 5. So its Window is 12.
func fleet() api.Plan {
	return api.Plan{Up: []int{-1, 0, 0, 1, 1, 4, 0}, Quota: 1, Room: 4, Batch: 2, Lease: 40, Wait: 2, Chunk: 16, Keep: 4, Ids: 16}
}

// by is the num-th operation of dev in its life inc, at the counter c.
func by(c, dev, inc, num int) api.Op {
	return api.Op{At: api.Stamp{C: c, Dev: dev}, Inc: inc, Num: num, Node: 2 + c%5, Up: 0, Name: "a"}
}

// moved is the entry of an operation; evicted and admitted are those of a device's life.
func moved(o api.Op) api.Entry        { return api.Entry{Kind: 1, Op: o} }
func evicted(dev, inc int) api.Entry  { return api.Entry{Kind: 2, Dev: dev, Inc: inc} }
func admitted(dev, inc int) api.Entry { return api.Entry{Kind: 3, Dev: dev, Inc: inc} }
func base() []api.Place               { return []api.Place{{Node: 9, Up: 0, Name: "x"}} }
func chunks(n int) string             { return strings.Repeat("0123456789abcdef", n) }

// lay puts a stream into s that is stable at place, with the entries l behind it, and the past's counter.
func lay(s *api.State, place int, l ...api.Entry) {
	s.Stream = api.Stream{S: place, T: s.Past.T, Pos: place + len(l), Entries: l}
}

// pastAt is the past of there's base and operations by rising counters, those up to t in its base.
func pastAt(t int, l ...api.Op) api.Past {
	at := slices.IndexFunc(l, func(o api.Op) bool { return o.At.C > t })
	if at < 0 {
		at = len(l)
	}
	settled, _ := move.Fold(base(), l[:at])
	now, undos := move.Fold(settled, l[at:])
	return api.Past{Base: settled, T: t, Ops: l[at:], Undos: undos, Now: now}
}

// there is the root in the midst of its work: 2 is live, 3 waits for its snapshot, 5 was evicted, and 6 was while it waited. Nothing of it can be let go.
func there() api.State {
	s := api.State{
		Node: 0, Boot: 3,
		Queue: api.Queue{First: 1},
		Kids:  []api.Kid{{Node: 1, Recv: 5, Pos: 22, Boot: 4}, {Node: 2, Recv: 3, Pos: 20, Boot: 2}, {Node: 6, Recv: 1, Pos: 9, Boot: 0}},
		Members: []api.Member{
			{Dev: 2, Inc: 1, In: true, N: 3, Last: 30, Report: api.Report{Dev: 2, Inc: 1, Boot: 2, Beat: 8, Mode: live, Pos: 20, Clock: 31, Sent: 3}},
			{Dev: 3, Inc: 4, In: true, N: 0, Last: 24, Out: 12, Report: api.Report{Dev: 3, Inc: 4, Boot: 1, Beat: 5, Mode: joining, Pos: 22, Clock: 25, Chunk: 1}, Frozen: chunks(2) + "more"},
			{Dev: 5, Inc: 2, N: 7, Last: 20, Out: 21, Report: api.Report{Dev: 5, Inc: 2, Boot: 3, Beat: 9, Mode: live, Pos: 7, Clock: 8, Sent: 7}},
			{Dev: 6, Inc: 3, N: 1, Last: 8, Out: 9, Report: api.Report{Dev: 6, Inc: 3, Boot: 2, Beat: 4, Mode: joining, Pos: 3, Clock: 5, Chunk: 1}},
		},
		Past:   pastAt(25, by(26, 2, 1, 2), by(30, 2, 1, 3)),
		Counts: []api.Count{{Dev: 2, Inc: 1, N: 3}, {Dev: 3, Inc: 4, N: 0}, {Dev: 5, Inc: 2, N: 7}, {Dev: 6, Inc: 3, N: 1}},
		Clock:  32, Late: 2,
	}
	lay(&s, 20, evicted(5, 2), admitted(3, 4), moved(by(30, 2, 1, 3)))
	return s
}

// bare is l, nil if it holds nothing.
func bare[T any](l []T) []T {
	if len(l) == 0 {
		return nil
	}
	return l
}

// plain is s with each list that holds nothing nil.
func plain(s api.State) api.State {
	s.Stream.Entries, s.Kids, s.Members, s.Counts = bare(s.Stream.Entries), bare(s.Kids), bare(s.Members), bare(s.Counts)
	s.Queue.Ops, s.Reports, s.Gifts, s.Parts = bare(s.Queue.Ops), bare(s.Reports), bare(s.Gifts), bare(s.Parts)
	s.Past.Base, s.Past.Now, s.Past.Ops, s.Past.Undos = bare(s.Past.Base), bare(s.Past.Now), bare(s.Past.Ops), bare(s.Past.Undos)
	return s
}

// same tells whether two states are the same, part by part.
func same(a, b api.State) bool { return reflect.DeepEqual(plain(a), plain(b)) }

// alike tells whether two frames are the same, part by part.
func alike(a, b api.Frame) bool { return reflect.DeepEqual(plainFrame(a), plainFrame(b)) }

// plainFrame is f with each list that holds nothing nil.
func plainFrame(f api.Frame) api.Frame {
	f.Ops, f.Reports, f.Entries, f.Gifts = bare(f.Ops), bare(f.Reports), bare(f.Entries), bare(f.Gifts)
	return f
}

// The marks that stand in the spare room of lists.
var (
	markOp     = api.Op{Num: -77}
	markEntry  = api.Entry{Dev: -77}
	markKid    = api.Kid{Node: -77}
	markReport = api.Report{Dev: -77}
	markGift   = api.Gift{Dev: -77}
	markMember = api.Member{Dev: -77}
	markCount  = api.Count{Dev: -77}
	markPlace  = api.Place{Node: -77}
	markUndo   = api.Undo{Had: true, Was: markPlace}
)

// copied is s in memory of its own, with marks in the spare room of each list.
func copied(s api.State) api.State {
	s.Stream.Entries, s.Kids, s.Members, s.Counts = roomy(s.Stream.Entries, markEntry), roomy(s.Kids, markKid), roomy(s.Members, markMember), roomy(s.Counts, markCount)
	s.Past.Base, s.Past.Now, s.Past.Ops, s.Past.Undos = roomy(s.Past.Base, markPlace), roomy(s.Past.Now, markPlace), roomy(s.Past.Ops, markOp), roomy(s.Past.Undos, markUndo)
	return s
}

// untouched tells whether s, made by copied of was, is as it was, its spare room too.
func untouched(s, was api.State) bool {
	return same(s, was) &&
		marked(s.Stream.Entries, markEntry) && marked(s.Kids, markKid) && marked(s.Members, markMember) && marked(s.Counts, markCount) &&
		marked(s.Past.Base, markPlace) && marked(s.Past.Now, markPlace) && marked(s.Past.Ops, markOp) && marked(s.Past.Undos, markUndo)
}

// copiedFrame is f in memory of its own, with marks in the spare room of each list.
func copiedFrame(f api.Frame) api.Frame {
	f.Ops, f.Entries = roomy(f.Ops, markOp), roomy(f.Entries, markEntry)
	f.Reports, f.Gifts = roomy(f.Reports, markReport), roomy(f.Gifts, markGift)
	return f
}

// untouchedFrame tells whether f, made by copiedFrame of was, is as it was, its spare room too.
func untouchedFrame(f, was api.Frame) bool {
	return alike(f, was) && marked(f.Ops, markOp) && marked(f.Entries, markEntry) &&
		marked(f.Reports, markReport) && marked(f.Gifts, markGift)
}

// roomy is l in memory of its own, with three marks behind it.
func roomy[T any](l []T, mark T) []T {
	return append(append(make([]T, 0, len(l)+3), l...), mark, mark, mark)[:len(l)]
}

// marked tells whether the three marks still stand behind l.
func marked[T comparable](l []T, mark T) bool {
	for _, x := range l[len(l):cap(l)] {
		if x != mark {
			return false
		}
	}
	return cap(l) >= len(l)+3
}

// scribbleFrame writes over all that f's lists hold, and behind it.
func scribbleFrame(f api.Frame) {
	scribble(f.Ops, markOp)
	scribble(f.Entries, markEntry)
	scribble(f.Reports, markReport)
	scribble(f.Gifts, markGift)
}

// scribble writes over all that l holds, and behind it.
func scribble[T any](l []T, mark T) {
	l = l[:cap(l)]
	for i := range l {
		l[i] = mark
	}
}

// P20.1: a new root: its kids, of which nothing is known, and all devices, of whatever depth, as members in their first life.
func TestNew(t *testing.T) {
	for _, c := range []struct{ up, kids, devices []int }{
		{fleet().Up, []int{1, 2, 6}, []int{2, 3, 5, 6}},
		{[]int{-1, 0}, []int{1}, []int{1}},
		{[]int{-1, 0, 0}, []int{1, 2}, []int{1, 2}},
		{[]int{-1, 0, 1, 2, 3}, []int{1}, []int{4}},
		{[]int{-1, 0, 0, 0, 0, 1, 1, 1, 1, 2, 2, 2}, []int{1, 2, 3, 4}, []int{3, 4, 5, 6, 7, 8, 9, 10, 11}},
		{[]int{-1}, nil, nil},
		{nil, nil, nil},
	} {
		want := api.State{Boot: 1, Queue: api.Queue{First: 1}}
		for _, kid := range c.kids {
			want.Kids = append(want.Kids, api.Kid{Node: kid})
		}
		for _, dev := range c.devices {
			want.Members = append(want.Members, api.Member{Dev: dev, Inc: 1, In: true, Report: api.Report{Dev: dev, Inc: 1, Mode: live}})
		}
		if s := root.New(api.Plan{Up: c.up}); !same(s, want) {
			t.Errorf("of %v: %v", c.up, s)
		}
	}
}

// evict is Evict, twice, of states with marked spare room: both answers are the same, and what is handed in stays (DOC.md's rules 3 and 4).
func evict(t *testing.T, s api.State, dev int) (api.State, api.Errno) {
	t.Helper()
	in := copied(s)
	got, no := root.Evict(in, dev)
	again, twice := root.Evict(in, dev)
	if !same(got, again) || no != twice {
		t.Errorf("%d of %v: %d, %v, and then %d, %v", dev, s, no, got, twice, again)
	}
	if !untouched(in, s) {
		t.Errorf("what was handed in is %v", in)
	}
	if no != api.OK && !same(got, s) {
		t.Errorf("beside the error %d: %v; not %v", no, got, s)
	}
	return again, no
}

// P20.1: who isn't a member that is In isn't evicted, and nothing changes.
func TestEvictErrNone(t *testing.T) {
	for _, n := range edges() {
		want := api.ErrNone
		if n == 2 || n == 3 {
			want = api.OK
		}
		if _, no := evict(t, there(), n); no != want {
			t.Errorf("of %d: %d", n, no)
		}
		if _, no := evict(t, api.State{}, n); no != api.ErrNone {
			t.Errorf("of %d, of none: %d", n, no)
		}
	}
}

// P20.1: the eviction is an entry more, at Out; the device isn't In; it has no snapshot any more, and holds nothing back.
func TestEvict(t *testing.T) {
	want := there()
	want.Members[0].In, want.Members[0].Out = false, 24
	lay(&want, 22, moved(by(30, 2, 1, 3)), evicted(2, 1))
	one, no := evict(t, there(), 2)
	if no != api.OK || !same(one, want) {
		t.Errorf("2: %d, %v; not %v", no, one, want)
	}

	want = there()
	want.Members[1].In, want.Members[1].Out, want.Members[1].Frozen = false, 24, ""
	want.Past = pastAt(29, there().Past.Ops...)
	lay(&want, 20, evicted(5, 2), admitted(3, 4), moved(by(30, 2, 1, 3)), evicted(3, 4))
	if s, no := evict(t, there(), 3); no != api.OK || !same(s, want) {
		t.Errorf("3: %d, %v; not %v", no, s, want)
	}
}

// P20.1: when nobody is a member any more, all is let go, at once.
func TestEvictAll(t *testing.T) {
	s, _ := evict(t, there(), 2)
	s, no := evict(t, s, 3)
	want := there()
	want.Members[0].In, want.Members[0].Out = false, 24
	want.Members[1].In, want.Members[1].Out, want.Members[1].Frozen = false, 25, ""
	want.Past = pastAt(32, there().Past.Ops...)
	lay(&want, 25)
	if no != api.OK || !same(s, want) {
		t.Errorf("%d, %v; not %v", no, s, want)
	}
	if _, no := evict(t, s, 3); no != api.ErrNone {
		t.Errorf("once more: %d", no)
	}
}

// P20.1: the eviction is of its life, and has a place, even where the window has no room: it makes room.
func TestEvictBeyondWindow(t *testing.T) {
	s := there()
	s.Members[0].Inc = mostCount
	var l []api.Entry
	for n := range 30 {
		l = append(l, evicted(5, n+1))
	}
	s.Members[1].Report.Pos = 25
	lay(&s, 20, l...)
	got, no := evict(t, s, 2)
	last := len(got.Stream.Entries) - 1
	if no != api.OK || got.Stream.S != 25 || got.Stream.Pos != 51 || got.Members[0].Out != 51 || got.Stream.Entries[last] != evicted(2, mostCount) {
		t.Errorf("%d, %v", no, got)
	}
}

// P20.1: all that goes: to each kid, in order, with all the room; and the gifts to what is at or below it.
func TestFrames(t *testing.T) {
	s := there()
	l := s.Stream.Entries
	want := []api.Frame{
		{From: 0, To: 1, Boot: 3, First: 1, Ack: 5, Grant: 9, S: 20, T: 25, Start: 23, Entries: l[2:], Gifts: []api.Gift{{Dev: 3, Inc: 4, Chunk: 1, Total: 3, Data: chunks(1)}}},
		{From: 0, To: 2, Boot: 3, First: 1, Ack: 3, Grant: 7, S: 20, T: 25, Start: 21, Entries: l[:2]},
		{From: 0, To: 6, Boot: 3, First: 1, Ack: 1, Grant: 5, S: 20, T: 25, Start: 21, Entries: l[:2], Gifts: []api.Gift{{Dev: 6, Inc: 3}}},
	}
	got := root.Frames(fleet(), s)
	if len(got) != len(want) {
		t.Fatalf("%d frames", len(got))
	}
	for i, f := range got {
		if !alike(f, want[i]) {
			t.Errorf("the frame %d: %v; not %v", i, f, want[i])
		}
	}
}

// P20.1: a new root tells its kids that there is nothing, and that there is room; one without kids tells nothing.
func TestFramesOfNew(t *testing.T) {
	l := root.Frames(fleet(), root.New(fleet()))
	for i, kid := range []int{1, 2, 6} {
		if want := (api.Frame{From: 0, To: kid, Boot: 1, First: 1, Grant: 4, Start: 1}); len(l) != 3 || !alike(l[i], want) {
			t.Errorf("%v; not %v", l, want)
		}
	}
	if l := root.Frames(fleet(), api.State{}); len(l) != 0 {
		t.Errorf("without kids: %v", l)
	}
}

// P20.1: for whom there is a gift, and which one: here for the device 3, below the kid 1.
func TestGifts(t *testing.T) {
	text := chunks(3) + "end"
	for _, c := range []struct {
		in     bool
		inc    int
		mode   int
		chunk  int
		frozen string
		want   []api.Gift
	}{
		{true, 4, joining, 0, text, []api.Gift{{Dev: 3, Inc: 4, Chunk: 0, Total: 4, Data: chunks(1)}}},
		{true, 4, joining, 3, text, []api.Gift{{Dev: 3, Inc: 4, Chunk: 3, Total: 4, Data: "end"}}},
		{true, 4, joining, 4, text, nil}, {true, 4, joining, mostCount, text, nil}, {true, 4, joining, math.MaxInt, text, nil},
		{true, 4, live, 1, text, []api.Gift{{Dev: 3, Inc: 4, Chunk: 1, Total: 4, Data: chunks(1)}}},
		{true, 4, joining, 0, "x", []api.Gift{{Dev: 3, Inc: 4, Chunk: 0, Total: 1, Data: "x"}}},
		{true, 9, joining, 0, "x", []api.Gift{{Dev: 3, Inc: 9, Chunk: 0, Total: 1, Data: "x"}}},
		{true, 4, joining, 0, "", nil}, {true, 4, joining, 1, "", nil}, {true, 4, live, 0, "", nil},
		{false, 4, joining, 0, "", []api.Gift{{Dev: 3, Inc: 4}}}, {false, 4, joining, 3, text, []api.Gift{{Dev: 3, Inc: 4}}},
		{false, 9, joining, 0, "", []api.Gift{{Dev: 3, Inc: 9}}}, {false, 4, live, 0, "", nil}, {false, 4, live, 0, text, nil},
	} {
		s := there()
		s.Members[1] = api.Member{Dev: 3, Inc: 4, In: c.in, Report: api.Report{Dev: 3, Inc: c.inc, Mode: c.mode, Chunk: c.chunk}, Frozen: c.frozen}
		l := root.Frames(fleet(), s)
		if !alike(api.Frame{Gifts: l[0].Gifts}, api.Frame{Gifts: c.want}) || len(l[1].Gifts) != 0 || len(l[2].Gifts) != 1 {
			t.Errorf("%v: %v", c, l)
		}
	}
}

// P20.1: chunks are as long as the plan says, all of them together the snapshot; by members.
func TestGiftsBySize(t *testing.T) {
	text := chunks(5) + "end"
	for _, size := range []int{16, 17, 82, 83, 84, 256, 1 << 30} {
		p, s := fleet(), there()
		p.Chunk = size
		s.Members[1].Frozen = text
		s.Members[2] = api.Member{Dev: 5, Inc: 2, Report: api.Report{Dev: 5, Inc: 3, Mode: joining}}
		told, total := "", (len(text)+size-1)/size
		for i := range total {
			s.Members[1].Report.Chunk = i
			l := root.Frames(p, s)[0].Gifts
			if len(l) != 2 || l[0].Total != total || l[0].Chunk != i || l[1] != (api.Gift{Dev: 5, Inc: 3}) {
				t.Fatalf("by %d, %d: %v", size, i, l)
			}
			told += l[0].Data
		}
		if told != text {
			t.Errorf("by %d: %q", size, told)
		}
	}
}

// DOC.md's rules 3 and 4: frames are new memory, hang on the state alone, and leave it as it is.
func TestFramesMemory(t *testing.T) {
	was := there()
	s := copied(was)
	want := root.Frames(fleet(), was)
	for range 2 {
		l := root.Frames(fleet(), s)
		for i, f := range l {
			if !alike(f, want[i]) {
				t.Errorf("the frame %d: %v; not %v", i, f, want[i])
			}
		}
		for _, f := range l {
			scribbleFrame(f)
		}
		if !untouched(s, was) {
			t.Fatalf("what was handed in is %v", s)
		}
	}
}

// DOC.md's rule 5: calls end, and none panics, whatever the numbers.
func TestAnyNumbers(t *testing.T) {
	for _, n := range edges() {
		p, s := fleet(), there()
		p.Batch, p.Room, p.Chunk = n, n, n
		s.Kids[0].Pos = n
		for i, f := range root.Frames(p, s) {
			if f.From != 0 || f.To != s.Kids[i].Node || f.Ack != s.Kids[i].Recv || len(f.Entries) > max(n, 0) {
				t.Errorf("by %d: %v", n, f)
			}
		}
		s = there()
		for i := range s.Members {
			m := &s.Members[i]
			m.Inc, m.N, m.Last, m.Out, m.Report.Pos, m.Report.Clock, m.Report.Sent, m.Report.Chunk = n, n, n, n, n, n, n, n
		}
		root.Frames(fleet(), s)
		for _, dev := range []int{2, 3} {
			if x, no := evict(t, s, dev); no != api.OK || x.Members[0].In && x.Members[1].In {
				t.Errorf("evicted with %d: %d, %v", n, no, x)
			}
		}
		f := api.Frame{From: 1, To: 0, Boot: 9, First: n, Pos: n, Ops: []api.Op{by(n, n, n, n), by(1, 2, n, n)}}
		f.Reports = []api.Report{{Dev: n, Inc: n, Mode: n}, {Dev: 3, Inc: n, Boot: n, Beat: n, Mode: joining, Pos: n, Clock: n, Sent: n, Chunk: n}}
		if _, _, no := root.Take(fleet(), s, f); no != api.OK {
			t.Errorf("a frame with %d: %d", n, no)
		}
	}
}

// fits tells whether l has just those devices, in that order.
func fits(l []int, want ...int) bool { return slices.Equal(bare(l), bare(want)) }
