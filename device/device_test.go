package device_test

import (
	"math"
	"reflect"
	"slices"
	"testing"

	"bargeman/api"
	"bargeman/device"
	"bargeman/past"
)

// The document's numbers, written out: the tests shall not follow one that is changed.
const (
	live      = 1
	joining   = 2
	nodes     = 12
	ids       = 64
	mostCount = 1 << 40
	mostParts = 256
)

// edges is numbers around all bounds, and around those at which a smaller kind of number would wrap.
func edges() []int {
	l := []int{math.MinInt, math.MinInt + 1, math.MaxInt - 1, math.MaxInt}
	for n := -3; n < 15; n++ {
		l = append(l, n)
	}
	for _, n := range []int{ids, 1 << 8, 1 << 16, 1 << 31, 1 << 32, mostCount, 1 << 53, 1 << 62} {
		l = append(l, n-1, n, n+1, n+2, -n-1, -n, -n+1)
	}
	return l
}

// fleet is a root, 0; below it the relay 1 and the device 4; below the relay the devices 2 and 3.
func fleet() api.Plan {
	return api.Plan{Up: []int{-1, 0, 1, 1, 0}, Quota: 2, Room: 3, Batch: 2, Lease: 40, Wait: 2, Chunk: 32, Keep: 4, Ids: 16}
}

// at is a place.
func at(node, up int, name string) api.Place { return api.Place{Node: node, Up: up, Name: name} }

// by is the operation that moves a node, at the counter c of dev, as the num-th one of its life inc.
func by(c, dev, inc, num int, x api.Place) api.Op {
	return api.Op{At: api.Stamp{C: c, Dev: dev}, Inc: inc, Num: num, Node: x.Node, Up: x.Up, Name: x.Name}
}

// pastOf is the past of the base, all with counters up to t in it, and the operations.
func pastOf(base []api.Place, t int, l ...api.Op) api.Past {
	h := past.Settle(api.Past{Base: base, Now: base}, t)
	for _, o := range l {
		h, _ = past.Add(h, o)
	}
	return h
}

// there is the device 2 in the midst of its life 3: two operations of another one and one of its own in its past, that one and one of an elder life in its queue.
func there() api.State {
	own := by(8, 2, 3, 1, at(6, 5, "c"))
	return api.State{
		Node: 2, Boot: 4, Above: 7,
		Stream: api.Stream{S: 9, T: 5, Pos: 9},
		Queue:  api.Queue{First: 3, Grant: 3, Ops: []api.Op{by(2, 2, 2, 9, at(7, 0, "z")), own}},
		Past:   pastOf([]api.Place{at(4, 0, "a")}, 5, by(6, 3, 1, 4, at(5, 4, "b")), own, by(9, 3, 1, 5, at(7, 4, "d"))),
		Counts: []api.Count{{Dev: 2, Inc: 3, N: 0}, {Dev: 3, Inc: 1, N: 5}},
		Inc:    3, Mode: live, Clock: 9, Sent: 1,
	}
}

// bare is l, nil if it holds nothing.
func bare[T any](l []T) []T {
	if len(l) == 0 {
		return nil
	}
	return l
}

// plain is s with each list that holds nothing nil.
func plain(s api.State) api.State {
	s.Stream.Entries = bare(s.Stream.Entries)
	s.Queue.Ops = bare(s.Queue.Ops)
	s.Past.Base, s.Past.Ops = bare(s.Past.Base), bare(s.Past.Ops)
	s.Past.Undos, s.Past.Now = bare(s.Past.Undos), bare(s.Past.Now)
	s.Kids, s.Reports, s.Gifts, s.Members = bare(s.Kids), bare(s.Reports), bare(s.Gifts), bare(s.Members)
	s.Counts, s.Parts = bare(s.Counts), bare(s.Parts)
	return s
}

// same tells whether two states are the same, part by part.
func same(a, b api.State) bool { return reflect.DeepEqual(plain(a), plain(b)) }

// copied is s in memory of its own, with marks in the spare room of each list.
func copied(s api.State) api.State {
	s.Queue.Ops = roomy(s.Queue.Ops, api.Op{Num: -77})
	s.Past.Base = roomy(s.Past.Base, api.Place{Node: -77})
	s.Past.Ops = roomy(s.Past.Ops, api.Op{Num: -77})
	s.Past.Undos = roomy(s.Past.Undos, api.Undo{Was: api.Place{Node: -77}})
	s.Past.Now = roomy(s.Past.Now, api.Place{Node: -77})
	s.Counts = roomy(s.Counts, api.Count{N: -77})
	s.Parts = roomy(s.Parts, "mark")
	return s
}

// untouched tells whether s, made by copied of was, is as it was, its spare room too.
func untouched(s, was api.State) bool {
	return same(s, was) && marked(s.Queue.Ops, api.Op{Num: -77}) &&
		marked(s.Past.Base, api.Place{Node: -77}) && marked(s.Past.Ops, api.Op{Num: -77}) &&
		marked(s.Past.Undos, api.Undo{Was: api.Place{Node: -77}}) && marked(s.Past.Now, api.Place{Node: -77}) &&
		marked(s.Counts, api.Count{N: -77}) && marked(s.Parts, "mark")
}

// roomy is l in memory of its own, with three marks behind it.
func roomy[T any](l []T, mark T) []T {
	return append(append(make([]T, 0, len(l)+3), l...), mark, mark, mark)[:len(l)]
}

// marked tells whether the three marks still stand behind l.
func marked[T comparable](l []T, mark T) bool {
	for _, x := range l[len(l):cap(l)] {
		if x != mark {
			return false
		}
	}
	return cap(l) >= len(l)+3
}

// P18.1: a new device.
func TestNew(t *testing.T) {
	for _, node := range edges() {
		want := api.State{Node: node, Boot: 1, Inc: 1, Mode: live, Queue: api.Queue{First: 1}}
		if s := device.New(node); !same(s, want) {
			t.Errorf("New(%d): %v", node, s)
		}
	}
}

// P18.1: one that leaves; what it has else stays.
func TestLeave(t *testing.T) {
	for _, mode := range []int{live, joining} {
		s := there()
		s.Mode, s.Parts, s.Late = mode, []string{"ab", "c"}, 3
		was := s
		s = copied(s)
		want := was
		want.Mode, want.Inc, want.Sent, want.Parts = joining, 4, 0, nil
		if x := device.Leave(s); !same(x, want) {
			t.Errorf("left: %v", x)
		}
		if !untouched(s, was) {
			t.Errorf("what was handed in is %v", s)
		}
	}
}

// P18.1: lives end at MaxCount.
func TestLeaveAtTheEnd(t *testing.T) {
	for inc, want := range map[int]int{0: 1, 1: 2, mostCount - 2: mostCount - 1, mostCount - 1: mostCount, mostCount: mostCount} {
		s := there()
		s.Inc = inc
		if x := device.Leave(s); x.Inc != want || x.Mode != joining || x.Sent != 0 {
			t.Errorf("behind life %d: %d", inc, x.Inc)
		}
	}
}

// P18.1: the report tells each thing where it belongs.
func TestReport(t *testing.T) {
	s := there()
	if r := device.Report(s, 11); r != (api.Report{Dev: 2, Inc: 3, Boot: 4, Beat: 11, Mode: live, Pos: 9, Clock: 9, Sent: 1}) {
		t.Errorf("live: %v", r)
	}
	s.Mode, s.Parts, s.Clock, s.Sent = joining, []string{"ab", "", "c"}, 17, 6
	if r := device.Report(s, 0); r != (api.Report{Dev: 2, Inc: 3, Boot: 4, Mode: joining, Pos: 9, Clock: 17, Sent: 6, Chunk: 3}) {
		t.Errorf("joining: %v", r)
	}
	if r := device.Report(device.New(5), 1); r != (api.Report{Dev: 5, Inc: 1, Boot: 1, Beat: 1, Mode: live}) {
		t.Errorf("new: %v", r)
	}
	for _, n := range edges() {
		if r := device.Report(device.New(n), n); r.Dev != n || r.Beat != n {
			t.Errorf("%d: %v", n, r)
		}
	}
}

// P18.1: the frame: to the parent, whether that is the root or a relay, with no more than was granted, and than Batch.
func TestFrame(t *testing.T) {
	p := fleet()
	s := there()
	own := s.Queue.Ops
	for _, c := range []struct {
		grant, batch int
		ops          []api.Op
	}{
		{0, 2, nil}, {2, 2, nil}, {3, 2, own[:1]}, {4, 2, own}, {99, 2, own}, {4, 1, own[:1]}, {4, 8, own}, {4, 0, nil}, {4, -1, nil},
	} {
		p.Batch, s.Queue.Grant = c.batch, c.grant
		want := api.Frame{From: 2, To: 1, Boot: 4, First: 3, Pos: 9, Start: 1, Ops: c.ops, Reports: []api.Report{device.Report(s, 6)}}
		f := device.Frame(p, s, 6)
		f.Ops = bare(f.Ops)
		if !reflect.DeepEqual(f, want) {
			t.Errorf("granted %d, batch %d: %v", c.grant, c.batch, f)
		}
	}
	if f := device.Frame(p, device.New(4), 1); f.From != 4 || f.To != 0 || f.First != 1 || f.Pos != 0 || len(f.Reports) != 1 || f.Reports[0].Dev != 4 {
		t.Errorf("below the root: %v", f)
	}
}

// P18.1, DOC.md's rule 5: of what is no node of the plan the frame goes to nobody that there is.
func TestFrameOfNone(t *testing.T) {
	for _, node := range edges() {
		for _, ups := range [][]int{nil, {-1}, {-1, 0, 1, 1, 0}} {
			p := fleet()
			p.Up = ups
			f := device.Frame(p, device.New(node), 3)
			want := 0
			if node >= 0 && node < len(ups) {
				want = ups[node]
			}
			if f.From != node || f.To != want || f.Start != 1 || len(f.Reports) != 1 {
				t.Errorf("of %d, of %v: %v", node, ups, f)
			}
		}
	}
}

// P18.1: the counts, with its own ones where it has a life beside the first one, or edits of this one.
func TestVector(t *testing.T) {
	others := []api.Count{{Dev: 1, Inc: 2, N: 6}, {Dev: 3, Inc: 1, N: 5}}
	told := []api.Count{{Dev: 1, Inc: 2, N: 6}, {Dev: 2, Inc: 1, N: 9}, {Dev: 3, Inc: 1, N: 5}}
	with := func(c api.Count) []api.Count { return []api.Count{others[0], c, others[1]} }
	for _, c := range []struct {
		inc, sent    int
		counts, want []api.Count
	}{
		{1, 0, others, others},
		{1, 0, nil, nil},
		{1, 0, told, told}, // its own count stays as it was told
		{1, 1, others, with(api.Count{Dev: 2, Inc: 1, N: 1})},
		{1, 1, nil, []api.Count{{Dev: 2, Inc: 1, N: 1}}},
		{1, 12, told, with(api.Count{Dev: 2, Inc: 1, N: 12})},
		{2, 0, others, with(api.Count{Dev: 2, Inc: 2})},
		{2, 0, told, with(api.Count{Dev: 2, Inc: 2})},
		{2, 7, told, with(api.Count{Dev: 2, Inc: 2, N: 7})},
		{mostCount, mostCount, told, with(api.Count{Dev: 2, Inc: mostCount, N: mostCount})},
	} {
		for _, mode := range []int{live, joining} {
			s := there()
			s.Inc, s.Sent, s.Counts, s.Mode = c.inc, c.sent, c.counts, mode
			was := s
			s = copied(s)
			l := device.Vector(s)
			if !slices.Equal(l, c.want) {
				t.Errorf("life %d, %d edits, %v: %v", c.inc, c.sent, c.counts, l)
			}
			l = append(l, api.Count{Dev: 11})
			l[0].N = -5
			if !untouched(s, was) {
				t.Errorf("what was handed in is %v", s)
			}
		}
	}
}

// P18.1: what a live one shows is its tree now, not its base; any other one shows nothing.
func TestRead(t *testing.T) {
	s := there()
	want := []api.Seen{{Node: 4, Up: 0, Name: "a"}, {Node: 5, Up: 4, Name: "b"}, {Node: 6, Up: 5, Name: "c"}, {Node: 7, Up: 4, Name: "d"}}
	if l, is := device.Read(s); !is || !slices.Equal(l, want) {
		t.Errorf("live: %v, %v", l, is)
	}
	if l, is := device.Read(device.New(3)); !is || len(l) != 0 {
		t.Errorf("new: %v, %v", l, is)
	}
	for _, mode := range edges() {
		s.Mode = mode
		if l, is := device.Read(s); mode != live && (is || l != nil) {
			t.Errorf("mode %d: %v, %v", mode, l, is)
		}
	}
}
