package device_test

import (
	"math"
	"slices"
	"testing"

	"bargeman/api"
	"bargeman/device"
	"bargeman/past"
)

// to2 is a frame from 2's parent, of its Boot, that tells nothing new to there().
func to2() api.Frame {
	return api.Frame{From: 1, To: 2, Boot: 7, First: 1, Start: 10, S: 9, T: 5}
}

// moved is an entry of the operation o.
func moved(o api.Op) api.Entry { return api.Entry{Kind: 1, Op: o} }

// evicted is an entry: a life is over.
func evicted(dev, inc int) api.Entry { return api.Entry{Kind: 2, Dev: dev, Inc: inc} }

// admitted is an entry: a life begins.
func admitted(dev, inc int) api.Entry { return api.Entry{Kind: 3, Dev: dev, Inc: inc} }

// take takes f, and tells if what was handed in isn't as it was.
func take(t *testing.T, s api.State, f api.Frame) (api.State, api.Errno) {
	t.Helper()
	was, g := s, f
	s = copied(s)
	f.Entries = roomy(f.Entries, api.Entry{Kind: -77})
	f.Gifts = roomy(f.Gifts, api.Gift{Dev: -77})
	got, no := device.Take(fleet(), s, f)
	if !untouched(s, was) {
		t.Errorf("what was handed in is %v", s)
	}
	if !slices.Equal(f.Entries, g.Entries) || !marked(f.Entries, api.Entry{Kind: -77}) || !slices.Equal(f.Gifts, g.Gifts) || !marked(f.Gifts, api.Gift{Dev: -77}) {
		t.Errorf("the frame is %v", f)
	}
	if no != api.OK && !same(got, was) {
		t.Errorf("beside %d: %v", no, got)
	}
	if again, n := device.Take(fleet(), s, f); n != no || !same(again, got) {
		t.Errorf("a second time: %d, %v", n, again)
	}
	return got, no
}

// P18.2: ErrArg, unless it is from the parent, and to it.
func TestTakeArg(t *testing.T) {
	for _, from := range edges() {
		for _, to := range edges() {
			f := to2()
			f.From, f.To = from, to
			want := api.ErrArg
			if from == 1 && to == 2 {
				want = api.OK
			}
			if _, no := take(t, there(), f); no != want {
				t.Errorf("from %d to %d: %d", from, to, no)
			}
		}
	}
	s := device.New(4)
	if _, no := take(t, s, api.Frame{From: 0, To: 4}); no != api.OK {
		t.Errorf("from the root: %d", no)
	}
	if _, no := take(t, s, api.Frame{From: 1, To: 4}); no != api.ErrArg {
		t.Errorf("from a relay that isn't above it: %d", no)
	}
}

// P18.2, DOC.md's rule 5: what is no node has no parent.
func TestTakeOfNone(t *testing.T) {
	for _, node := range edges() {
		for _, ups := range [][]int{nil, {-1}, {-1, 0, 1, 1, 0}} {
			p := fleet()
			p.Up = ups
			for _, from := range []int{-1, 0, 1, node} {
				want := api.ErrArg
				if node >= 0 && node < len(ups) && from == ups[node] {
					want = api.OK
				}
				if _, no := device.Take(p, device.New(node), api.Frame{From: from, To: node}); no != want {
					t.Errorf("%d, of %v, from %d: %d", node, ups, from, no)
				}
			}
		}
	}
}

// P18.2: ErrStale below Above, else Above is the frame's Boot; live or joining.
func TestTakeStale(t *testing.T) {
	for _, boot := range edges() {
		for _, above := range edges() {
			for _, mode := range []int{live, joining} {
				s, f := there(), to2()
				s.Above, f.Boot, s.Mode = above, boot, mode
				want, no := s, api.OK
				want.Above = boot
				if boot < above {
					want, no = s, api.ErrStale
				}
				if got, n := take(t, s, f); n != no || !same(got, want) {
					t.Errorf("Boot %d, Above %d: %d, %v", boot, above, n, got)
				}
			}
		}
	}
}

// P18.2: of both errors ErrArg is told; beside them nothing changes, whatever the frame has.
func TestTakeOrder(t *testing.T) {
	f := to2()
	f.Boot, f.Ack, f.Grant, f.S, f.T = 6, 9, 9, 99, 99
	f.Entries = []api.Entry{evicted(2, 3)}
	if _, no := take(t, there(), f); no != api.ErrStale {
		t.Errorf("stale: %d", no)
	}
	f.From = 0
	if _, no := take(t, there(), f); no != api.ErrArg {
		t.Errorf("both: %d", no)
	}
	f.Boot = 7
	if _, no := take(t, there(), f); no != api.ErrArg {
		t.Errorf("from another one: %d", no)
	}
}

// P18.2: the queue is acknowledged and granted, live or joining; neither falls.
func TestTakeQueue(t *testing.T) {
	l := there().Queue.Ops
	for _, ack := range edges() {
		for _, grant := range edges() {
			for _, mode := range []int{live, joining} {
				s, f := there(), to2()
				s.Mode, f.Ack, f.Grant = mode, ack, grant
				gone := 0
				if ack >= 3 {
					gone = 1
				}
				if ack >= 4 {
					gone = 2
				}
				want := s
				want.Queue = api.Queue{First: 3 + gone, Grant: max(3, grant), Ops: l[gone:]}
				if got, no := take(t, s, f); no != api.OK || !same(got, want) {
					t.Fatalf("acknowledged %d, granted %d: %d, %v", ack, grant, no, got.Queue)
				}
			}
		}
	}
}

// P18.2: a live one that lacks what was let go leaves, and that is all: neither T nor entries count.
func TestTakeLeaves(t *testing.T) {
	for _, place := range edges() {
		s, f := there(), to2()
		f.S, f.T, f.Ack, f.Grant = place, 8, 3, 5
		f.Entries = []api.Entry{moved(by(20, 4, 1, 1, at(9, 0, "n")))}
		got, no := take(t, s, f)
		want := s
		want.Queue = api.Queue{First: 4, Grant: 5, Ops: s.Queue.Ops[1:]}
		if place > 9 {
			want.Mode, want.Inc, want.Sent = joining, 4, 0
		} else {
			want.Stream = api.Stream{S: 10, T: 8, Pos: 10}
			want.Past, _ = past.Add(past.Settle(s.Past, 8), f.Entries[0].Op)
			want.Counts = append(slices.Clone(s.Counts), api.Count{Dev: 4, Inc: 1, N: 1})
			want.Clock = 20
		}
		if no != api.OK || !same(got, want) {
			t.Errorf("S %d: %d, %v", place, no, got)
		}
	}
}

// P18.2: the past is settled up to T, its stream's T is the past's, and the clock isn't behind; nothing falls.
func TestTakeSettles(t *testing.T) {
	for _, stable := range []int{math.MinInt, -1, 0, 4, 5, 6, 7, 8, 9, 10, 11, 50, mostCount - 1, mostCount} {
		for _, clock := range []int{9, 10, 70} {
			s, f := there(), to2()
			s.Clock, f.T = clock, stable
			want := s
			want.Past = past.Settle(s.Past, stable)
			want.Stream.T = max(5, stable)
			want.Clock = max(clock, stable)
			got, no := take(t, s, f)
			if no != api.OK || !same(got, want) || got.Stream.T != got.Past.T || !past.Right(got.Past) {
				t.Errorf("T %d, clock %d: %d, %v", stable, clock, no, got)
			}
		}
	}
}

// P18.2: a joining one doesn't settle, takes no entries, and doesn't leave by S.
func TestTakeJoining(t *testing.T) {
	s, f := there(), to2()
	s.Mode, s.Parts = joining, []string{"x"}
	f.S, f.T = 99, 99
	f.Entries = []api.Entry{moved(by(20, 4, 1, 1, at(9, 0, "n"))), evicted(2, 3)}
	if got, no := take(t, s, f); no != api.OK || !same(got, s) {
		t.Errorf("joining: %d, %v", no, got)
	}
}

// P18.2: what is neither live nor joining learns nothing but what all do.
func TestTakeOfNoMode(t *testing.T) {
	for _, mode := range []int{math.MinInt, -1, 0, 3, math.MaxInt} {
		s, f := there(), to2()
		s.Mode = mode
		f.S, f.T, f.Boot = 99, 99, 12
		f.Entries = []api.Entry{moved(by(20, 4, 1, 1, at(9, 0, "n")))}
		f.Gifts = []api.Gift{{Dev: 2, Inc: 3}, {Dev: 2, Inc: 3, Total: 1}}
		want := s
		want.Above = 12
		if got, no := take(t, s, f); no != api.OK || !same(got, want) {
			t.Errorf("mode %d: %d, %v", mode, no, got)
		}
	}
}

// P18.2: of each kind of entry what it does.
func TestTakeEntry(t *testing.T) {
	s := there()
	others := by(12, 4, 1, 1, at(9, 0, "n"))
	early := by(6, 4, 2, 7, at(6, 0, "m")) // ahead of some that the past has
	elder := by(11, 2, 2, 8, at(9, 0, "e"))
	next := by(11, 2, 4, 1, at(9, 0, "e"))
	own := by(8, 2, 3, 1, at(6, 5, "c"))
	ownAhead := by(30, 2, 3, 2, at(9, 5, "c")) // one that the past lacks: it isn't added
	late := by(5, 4, 1, 1, at(9, 0, "n"))
	twice := by(9, 3, 1, 6, at(9, 0, "n"))
	counts := func(l ...api.Count) []api.Count { return l }
	for _, c := range []struct {
		what   string
		e      api.Entry
		clock  int
		counts []api.Count
		added  bool
		late   int
	}{
		{"another one's operation", moved(others), 12, counts(s.Counts[0], s.Counts[1], api.Count{Dev: 4, Inc: 1, N: 1}), true, 0},
		{"an early one", moved(early), 9, counts(s.Counts[0], s.Counts[1], api.Count{Dev: 4, Inc: 2, N: 7}), true, 0},
		{"one of an elder life of its own", moved(elder), 11, counts(api.Count{Dev: 2, Inc: 2, N: 8}, s.Counts[1]), true, 0},
		{"one of a later life of its own", moved(next), 11, counts(api.Count{Dev: 2, Inc: 4, N: 1}, s.Counts[1]), true, 0},
		{"one of its own", moved(own), 9, counts(api.Count{Dev: 2, Inc: 3, N: 1}, s.Counts[1]), false, 0},
		{"one of its own that it lacks", moved(ownAhead), 30, counts(api.Count{Dev: 2, Inc: 3, N: 2}, s.Counts[1]), false, 0},
		{"one that comes too late", moved(late), 9, counts(s.Counts[0], s.Counts[1], api.Count{Dev: 4, Inc: 1, N: 1}), false, 1},
		{"one of a moment that there is", moved(twice), 9, counts(s.Counts[0], api.Count{Dev: 3, Inc: 1, N: 6}), false, 1},
		{"another one's eviction", evicted(3, 1), 9, s.Counts, false, 0},
		{"another one's, of its number of lives", evicted(3, 3), 9, s.Counts, false, 0},
		{"its eviction of an elder life", evicted(2, 2), 9, s.Counts, false, 0},
		{"its eviction of a later life", evicted(2, 4), 9, s.Counts, false, 0},
		{"another one's admission", admitted(3, 2), 9, counts(s.Counts[0], api.Count{Dev: 3, Inc: 2}), false, 0},
		{"its own admission", admitted(2, 3), 9, s.Counts, false, 0},
		{"one of no kind", api.Entry{Kind: 9, Dev: 2, Inc: 3}, 9, s.Counts, false, 0},
		{"one of kind 0", api.Entry{}, 9, s.Counts, false, 0},
	} {
		f := to2()
		f.Entries = []api.Entry{c.e}
		want := s
		want.Stream = api.Stream{S: 10, T: 5, Pos: 10}
		want.Clock, want.Counts, want.Late = c.clock, c.counts, c.late
		if c.added {
			want.Past, _ = past.Add(s.Past, c.e.Op)
		}
		if got, no := take(t, s, f); no != api.OK || !same(got, want) || !past.Right(got.Past) {
			t.Errorf("%s: %d, %v", c.what, no, got)
		}
	}
}

// P18.2: its own eviction: it leaves at that place, and what comes behind isn't taken.
func TestTakeOwnEviction(t *testing.T) {
	first := by(12, 4, 1, 1, at(9, 0, "n"))
	f := to2()
	f.T = 6
	f.Entries = []api.Entry{moved(first), evicted(2, 3), moved(by(40, 4, 1, 2, at(9, 0, "m"))), evicted(2, 4), admitted(2, 5)}
	s := there()
	s.Late = 2
	want := s
	want.Stream = api.Stream{S: 11, T: 6, Pos: 11}
	want.Past, _ = past.Add(past.Settle(s.Past, 6), first)
	want.Counts = append(slices.Clone(s.Counts), api.Count{Dev: 4, Inc: 1, N: 1})
	want.Clock, want.Mode, want.Inc, want.Sent = 12, joining, 4, 0
	if got, no := take(t, s, f); no != api.OK || !same(got, want) {
		t.Errorf("%d, %v", no, got)
	}
}

// P18.2: how often an operation came too late is counted, one by one.
func TestTakeLate(t *testing.T) {
	s, f := there(), to2()
	s.Late = 3
	for i := range 4 {
		f.Entries = append(f.Entries, moved(by(2+i, 4, 1, 1+i, at(9, 0, "n"))))
	}
	if got, _ := take(t, s, f); got.Late != 7 || got.Stream.Pos != 13 || !same(api.State{Past: got.Past}, api.State{Past: s.Past}) {
		t.Errorf("%v", got)
	}
}

// P18.2: T counts ahead of the entries of the same frame.
func TestTakeSettlesFirst(t *testing.T) {
	s, f := there(), to2()
	f.T = 11
	f.Entries = []api.Entry{moved(by(11, 4, 1, 1, at(9, 0, "n"))), moved(by(12, 4, 1, 2, at(9, 0, "n")))}
	if got, _ := take(t, s, f); got.Late != 1 || len(got.Past.Ops) != 1 || got.Past.T != 11 || got.Clock != 12 {
		t.Errorf("%v", got)
	}
}

// P18.2: of the entries those from the place behind Pos on are taken, wherever the first one is; none behind a gap.
func TestTakeStart(t *testing.T) {
	for _, start := range edges() {
		for n := range 6 {
			s, f := device.New(2), to2()
			s.Stream = api.Stream{S: 6, Pos: 6}
			f.S, f.T, f.Start = 0, 0, start
			for i := range n {
				f.Entries = append(f.Entries, moved(by(5, i, 1, 1, at(2+i, 0, "n"))))
			}
			// The i-th entry is of device i: that of 2 is its own one, which the past doesn't get.
			var want []api.Op
			for i := range n {
				if start >= 0 && start < 20 && start+i >= 7 && start <= 7 && i != 2 {
					want = append(want, f.Entries[i].Op)
				}
			}
			pos := 6
			if start >= 0 && start <= 7 {
				pos = max(6, start+n-1)
			}
			got, no := take(t, s, f)
			if no != api.OK || got.Stream.S != pos || got.Stream.Pos != pos || !slices.Equal(got.Past.Ops, want) || len(got.Counts) != pos-6 {
				t.Fatalf("%d entries from %d on: %d, %v", n, start, no, got)
			}
		}
	}
}
