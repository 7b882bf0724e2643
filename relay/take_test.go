package relay_test

import (
	"math"
	"slices"
	"testing"

	"bargeman/api"
	"bargeman/relay"
)

// take is Take, twice, of states and frames with marked spare room: both answers are the same, and what is handed in stays (DOC.md's rules 3 and 4), even when what is answered is written over where it is new.
func take(t *testing.T, p api.Plan, s api.State, f api.Frame) (api.State, api.Errno) {
	t.Helper()
	in, frame := copied(s), copiedFrame(f)
	got, no := relay.Take(p, in, frame)
	again, twice := relay.Take(p, in, frame)
	if !same(got, again) || no != twice {
		t.Errorf("%v of %v: %d, %v, and then %d, %v", f, s, no, got, twice, again)
	}
	if !untouched(in, s) || !untouchedFrame(frame, f) {
		t.Errorf("what was handed in is %v, %v", in, frame)
	}
	scribbleFrame(frame)
	if !same(got, again) {
		t.Errorf("what was handed in was kept: %v", got)
	}
	if no != api.OK && !same(got, s) {
		t.Errorf("beside the error %d: %v; not %v", no, got, s)
	}
	return again, no
}

// down is a frame of the parent that tells nothing.
func down() api.Frame { return api.Frame{From: 0, To: 1, Boot: 7, First: 1, Start: 1} }

// up is a frame of the kid 2 that tells nothing.
func up() api.Frame { return api.Frame{From: 2, To: 1, Boot: 4, First: 1, Start: 1} }

// P19.2: frames that tell nothing new change nothing.
func TestTakeNothing(t *testing.T) {
	for _, f := range []api.Frame{down(), up()} {
		if s, no := take(t, fleet(), there(), f); no != api.OK || !same(s, there()) {
			t.Errorf("%v: %d, %v", f, no, s)
		}
	}
}

// P19.2: frames to it, of its parent or a kid, alone.
func TestTakeErrArg(t *testing.T) {
	neighbours := []int{0, 2, 3, 6}
	for _, n := range edges() {
		f := api.Frame{From: n, To: 1, Boot: 99}
		_, no := take(t, fleet(), there(), f)
		if is := slices.Contains(neighbours, n); is != (no == api.OK) || !is && no != api.ErrArg {
			t.Errorf("from %d: %d", n, no)
		}
		for _, from := range neighbours {
			f := api.Frame{From: from, To: n, Boot: 99}
			if _, no := take(t, fleet(), there(), f); (n == 1) != (no == api.OK) || n != 1 && no != api.ErrArg {
				t.Errorf("from %d to %d: %d", from, n, no)
			}
		}
	}
}

// P19.2: what is no node of the plan has no parent, but takes what its kids send.
func TestTakeWithoutParent(t *testing.T) {
	for _, n := range edges() {
		if n >= 0 && n <= 8 {
			continue
		}
		s := there()
		s.Node = n
		for _, from := range []int{-1, 0, 1} {
			if _, no := take(t, fleet(), s, api.Frame{From: from, To: n, Boot: 9}); no != api.ErrArg {
				t.Errorf("from %d to %d: %d", from, n, no)
			}
		}
		if _, no := take(t, fleet(), s, api.Frame{From: 6, To: n, Boot: 9}); no != api.OK {
			t.Errorf("of a kid, to %d: %d", n, no)
		}
	}
}

// P19.2: of elder starts of the parent, or of just that kid; ErrArg is told first.
func TestTakeErrStale(t *testing.T) {
	for _, c := range []struct{ from, boot int }{{0, 7}, {2, 4}, {3, 0}, {6, 2}} {
		for _, n := range edges() {
			want := api.OK
			if n < c.boot {
				want = api.ErrStale
			}
			if _, no := take(t, fleet(), there(), api.Frame{From: c.from, To: 1, Boot: n}); no != want {
				t.Errorf("from %d, start %d: %d", c.from, n, no)
			}
			for _, f := range []api.Frame{{From: c.from, To: 2, Boot: n}, {From: c.from + 7, To: 1, Boot: n}} {
				if _, no := take(t, fleet(), there(), f); no != api.ErrArg {
					t.Errorf("%v: %d", f, no)
				}
			}
		}
	}
}

// P19.2: what a refused frame tells changes nothing, whatever it is.
func TestTakeRefused(t *testing.T) {
	full := api.Frame{
		From: 0, To: 1, Boot: 6, First: 10, Ops: ops(6, 1, 2), Pos: 99, Reports: []api.Report{{Dev: 4, Inc: 9, Mode: live}, {Dev: 6, Inc: 9, Mode: live}},
		Start: 24, Entries: entries(24, 2), Ack: 99, Grant: 99, S: 22, T: 99, Gifts: []api.Gift{{Dev: 4, Inc: 9}},
	}
	for _, f := range []api.Frame{{From: 0, To: 1, Boot: 6}, {From: 6, To: 1, Boot: 1}, {From: 7, To: 1, Boot: 9}, {From: 0, To: 0, Boot: 9}} {
		full.From, full.To, full.Boot = f.From, f.To, f.Boot
		if _, no := take(t, fleet(), there(), full); no == api.OK {
			t.Errorf("%v was taken", full)
		}
	}
}

// P19.2: of the parent: its start, alone, and at once.
func TestTakeAbove(t *testing.T) {
	for _, n := range []int{7, 8, mostCount, math.MaxInt} {
		f, want := down(), there()
		f.Boot, want.Above = n, n
		if s, no := take(t, fleet(), there(), f); no != api.OK || !same(s, want) {
			t.Errorf("start %d: %d, %v", n, no, s)
		}
	}
}

// P19.2: of the parent: what it took goes, and what it granted is kept, if that is more.
func TestTakeAckAndGrant(t *testing.T) {
	for _, c := range []struct{ ack, grant, first, left, want int }{
		{0, 0, 6, 3, 7}, {5, 6, 6, 3, 7}, {6, 7, 7, 2, 7}, {7, 8, 8, 1, 8}, {8, 12, 9, 0, 12}, {9, 9, 9, 0, 9}, {99, 99, 9, 0, 99},
		{-1, -1, 6, 3, 7}, {math.MinInt, math.MinInt, 6, 3, 7}, {math.MaxInt, math.MaxInt, 9, 0, math.MaxInt},
	} {
		f, want := down(), there()
		f.Ack, f.Grant = c.ack, c.grant
		want.Queue = api.Queue{First: c.first, Grant: c.want, Ops: want.Queue.Ops[3-c.left:]}
		if s, no := take(t, fleet(), there(), f); no != api.OK || !same(s, want) {
			t.Errorf("%d taken, %d granted: %d, %v", c.ack, c.grant, no, s)
		}
	}
}

// P19.2: of the parent: its stable place and counter; up to there entries go, and beyond all that it has it jumps.
func TestTakeSettled(t *testing.T) {
	for _, c := range []struct{ s, t, wantS, wantT, pos, left int }{
		{0, 0, 20, 11, 23, 3}, {20, 11, 20, 11, 23, 3}, {21, 10, 21, 11, 23, 2}, {20, 12, 20, 12, 23, 3}, {22, 99, 22, 99, 23, 1},
		{23, 11, 23, 11, 23, 0}, {24, 12, 24, 12, 24, 0}, {mostCount, mostCount, mostCount, mostCount, mostCount, 0}, {-5, -5, 20, 11, 23, 3},
	} {
		f, want := down(), there()
		f.S, f.T = c.s, c.t
		want.Stream = api.Stream{S: c.wantS, T: c.wantT, Pos: c.pos, Entries: entries(24-c.left, c.left)}
		if s, no := take(t, fleet(), there(), f); no != api.OK || !same(s, want) {
			t.Errorf("settled at %d, %d: %d, %v", c.s, c.t, no, s)
		}
	}
}

// P19.2: of the parent: the entries that go on behind those that it has, and behind the place at which it settles.
func TestTakeEntries(t *testing.T) {
	for _, c := range []struct{ s, start, n, base, pos int }{
		{20, 24, 2, 20, 25}, {20, 23, 3, 20, 25}, {20, 21, 5, 20, 25}, {20, 1, 24, 20, 24}, {20, 25, 2, 20, 23}, {20, 21, 2, 20, 23},
		{20, 24, 0, 20, 23}, {22, 24, 2, 22, 25}, {23, 24, 1, 23, 24}, {25, 26, 2, 25, 27}, {25, 24, 2, 25, 25}, {25, 24, 3, 25, 26},
		{25, 27, 2, 25, 25}, {0, math.MaxInt, 3, 20, 23}, {0, math.MinInt, 3, 20, 23}, {0, -5, 3, 20, 23},
	} {
		f, want := down(), there()
		f.S, f.Start = c.s, c.start
		for i := range c.n {
			f.Entries = append(f.Entries, entries(c.start+i, 1)...)
		}
		want.Stream = api.Stream{S: c.base, T: 11, Pos: c.pos, Entries: entries(c.base+1, c.pos-c.base)}
		if s, no := take(t, fleet(), there(), f); no != api.OK || !same(s, want) {
			t.Errorf("%v: %d, %v", c, no, s.Stream)
		}
	}
}

// P19.2, P7: of the parent: no more entries than the window has, of those that are left when it has settled.
func TestTakeWindow(t *testing.T) {
	for quota, most := range map[int]int{1: 15, 2: 20, 8: 50} {
		p := fleet()
		p.Quota = quota
		for n := range most + 3 {
			s := there()
			s.Stream = api.Stream{S: 20, T: 11, Pos: 20 + n, Entries: entries(21, n)}
			for _, stable := range []int{20, 20 + n/2, 20 + n} {
				f, want := down(), s
				f.S, f.Start, f.Entries = stable, 19+n, entries(19+n, 6)
				left := s.Stream.Pos - stable
				pos := s.Stream.Pos + max(0, min(4, most-left))
				want.Stream = api.Stream{S: stable, T: 11, Pos: pos, Entries: entries(stable+1, pos-stable)}
				if got, no := take(t, p, s, f); no != api.OK || !same(got, want) {
					t.Errorf("window %d, %d entries, settled at %d: %d, %v", most, n, stable, no, got.Stream)
				}
			}
		}
	}
}

// P19.2: of the parent: the gifts of devices below it, of whatever depth; not of relays, of others, or of what is no node.
func TestTakeGifts(t *testing.T) {
	for _, n := range edges() {
		f, want := down(), there()
		g := api.Gift{Dev: n, Inc: 5, Chunk: 2, Total: 3, Data: "new"}
		f.Gifts = []api.Gift{g}
		switch n {
		case 4:
			want.Gifts = []api.Gift{g, want.Gifts[0], want.Gifts[1]}
		case 5:
			want.Gifts = []api.Gift{g, want.Gifts[1]}
		case 6:
			want.Gifts = []api.Gift{want.Gifts[0], g}
		case 8:
			want.Gifts = append(want.Gifts, g)
		}
		if s, no := take(t, fleet(), there(), f); no != api.OK || !same(s, want) {
			t.Errorf("to %d: %d, %v", n, no, s.Gifts)
		}
	}
}

// P19.2: of the parent: gifts are merged one by one, and those that aren't wanted go when all are.
func TestTakeGiftsMerged(t *testing.T) {
	six := there().Gifts[1]
	for _, c := range []struct{ came, want []api.Gift }{
		{[]api.Gift{{Dev: 5, Inc: 2, Chunk: 2, Total: 3, Data: "c"}}, []api.Gift{{Dev: 5, Inc: 2, Chunk: 2, Total: 3, Data: "c"}, six}},
		{[]api.Gift{{Dev: 5, Inc: 2, Chunk: 0, Total: 3, Data: "c"}}, there().Gifts},
		{[]api.Gift{{Dev: 5, Inc: 1, Chunk: 9, Total: 10, Data: "c"}}, there().Gifts},
		{[]api.Gift{{Dev: 5, Inc: 2}}, []api.Gift{{Dev: 5, Inc: 2}, six}},
		{[]api.Gift{{Dev: 5, Inc: 2}, {Dev: 5, Inc: 2, Chunk: 2, Total: 3}}, []api.Gift{{Dev: 5, Inc: 2}, six}},
		{[]api.Gift{{Dev: 5, Inc: 3, Chunk: 0, Total: 1}, {Dev: 5, Inc: 2, Chunk: 2, Total: 3}}, []api.Gift{{Dev: 5, Inc: 3, Chunk: 0, Total: 1}, six}},
		{[]api.Gift{{Dev: 4, Inc: 1, Chunk: 5, Total: 6}}, there().Gifts}, // 4 is live in that life
		{[]api.Gift{{Dev: 4, Inc: 1}}, there().Gifts},
		{[]api.Gift{{Dev: 4, Inc: 1}, {Dev: 4, Inc: 2}}, append([]api.Gift{{Dev: 4, Inc: 2}}, there().Gifts...)},
		{[]api.Gift{{Dev: 8, Inc: 1, Total: 1}, {Dev: 4, Inc: 2, Total: 1}}, []api.Gift{{Dev: 4, Inc: 2, Total: 1}, there().Gifts[0], six, {Dev: 8, Inc: 1, Total: 1}}},
	} {
		f, want := down(), there()
		f.Gifts, want.Gifts = c.came, c.want
		if s, no := take(t, fleet(), there(), f); no != api.OK || !same(s, want) {
			t.Errorf("%v: %d, %v", c.came, no, s.Gifts)
		}
	}
}

// P19.2: of a kid: its start and what it has, of that kid alone; the place never falls.
func TestTakeOfKid(t *testing.T) {
	for i, node := range []int{2, 3, 6} {
		for _, boot := range []int{4, 5, mostCount, math.MaxInt} {
			for _, pos := range []int{math.MinInt, -1, 0, 1, 20, 21, 22, 23, 24, mostCount} {
				f, want := up(), there()
				f.From, f.Boot, f.Pos = node, boot, pos
				want.Kids[i].Boot = boot
				want.Kids[i].Pos = max(want.Kids[i].Pos, pos)
				if s, no := take(t, fleet(), there(), f); no != api.OK || !same(s, want) {
					t.Errorf("of %d, start %d, %d: %d, %v", node, boot, pos, no, s.Kids)
				}
			}
		}
	}
}

// P19.2, P7: of a kid: its operations from the next one on, as far as there is room.
func TestTakeOps(t *testing.T) {
	for _, c := range []struct{ room, first, n, took, from int }{
		{4, 4, 1, 1, 4}, {4, 4, 2, 1, 4}, {4, 3, 2, 1, 4}, {4, 1, 9, 1, 4}, {4, 5, 2, 0, 0}, {4, 1, 3, 0, 0}, {4, 4, 0, 0, 0},
		{3, 4, 2, 0, 0}, {2, 4, 2, 0, 0}, {0, 4, 2, 0, 0}, {-1, 4, 2, 0, 0}, {16, 4, 2, 2, 4}, {16, 1, 9, 6, 4}, {16, 4, 16, 13, 4}, {5, 3, 9, 2, 4},
		{math.MaxInt, 4, 20, 20, 4}, {16, math.MaxInt, 9, 0, 0}, {16, math.MinInt, 9, 0, 0}, {16, 0, 9, 5, 4}, {16, -2, 9, 3, 4}, {16, -8, 9, 0, 0},
	} {
		p := fleet()
		p.Room = c.room
		f, want := up(), there()
		f.First = c.first
		for i := range c.n {
			f.Ops = append(f.Ops, by(c.first+i, 4, c.first+i))
		}
		want.Kids[0].Recv += c.took
		for i := range c.took {
			want.Queue.Ops = append(want.Queue.Ops, by(c.from+i, 4, c.from+i))
		}
		if s, no := take(t, p, there(), f); no != api.OK || !same(s, want) {
			t.Errorf("%v: %d, %v, %v", c, no, s.Kids, s.Queue)
		}
	}
}

// The chapter's example: room 2, three operations: two are taken; the third one when it comes again, and there is room.
func TestRoom(t *testing.T) {
	p := fleet()
	p.Room = 2
	f := api.Frame{From: 6, To: 1, Boot: 1, First: 1, Ops: ops(6, 1, 3)}
	s, _ := take(t, p, relay.New(p, 1), f)
	if len(s.Queue.Ops) != 2 || s.Kids[2].Recv != 2 {
		t.Errorf("first: %v, %v", s.Queue, s.Kids)
	}
	if x, _ := take(t, p, s, f); !same(x, s) {
		t.Errorf("again: %v", x)
	}
	s, _ = take(t, p, s, api.Frame{From: 0, To: 1, Boot: 1, Ack: 1})
	s, _ = take(t, p, s, f)
	if !slices.Equal(s.Queue.Ops, ops(6, 2, 2)) || s.Queue.First != 2 || s.Kids[2].Recv != 3 {
		t.Errorf("behind an acknowledgement: %v, %v", s.Queue, s.Kids)
	}
}

// P19.2: the kids share the room, and their operations' numbers are their own.
func TestRoomIsShared(t *testing.T) {
	s := relay.New(fleet(), 1)
	s, _ = take(t, fleet(), s, api.Frame{From: 6, To: 1, Boot: 1, First: 1, Ops: ops(6, 1, 3)})
	s, _ = take(t, fleet(), s, api.Frame{From: 2, To: 1, Boot: 1, First: 1, Ops: ops(4, 1, 3)})
	if !slices.Equal(s.Queue.Ops, append(ops(6, 1, 3), by(10, 4, 1))) || s.Kids[0].Recv != 1 || s.Kids[1].Recv != 0 || s.Kids[2].Recv != 3 {
		t.Errorf("%v, %v", s.Queue, s.Kids)
	}
}

// P19.2: of a kid: the reports of devices that it is, or that are below it; not of relays, of others, or of what is no node.
func TestTakeReports(t *testing.T) {
	below := map[int][]int{2: {4}, 3: {5, 8}, 6: {6}}
	for from, devices := range below {
		for _, n := range edges() {
			f := api.Frame{From: from, To: 1, Boot: 9}
			r := api.Report{Dev: n, Inc: 9, Boot: 1, Beat: 2, Mode: joining, Pos: 3, Clock: 4, Sent: 5}
			f.Reports = []api.Report{r}
			want := slices.DeleteFunc(there().Reports, func(x api.Report) bool { return x.Dev == n && slices.Contains(devices, n) })
			if slices.Contains(devices, n) {
				want = append(want, r)
				slices.SortFunc(want, func(a, b api.Report) int { return a.Dev - b.Dev })
			}
			if s, no := take(t, fleet(), there(), f); no != api.OK || !slices.Equal(s.Reports, want) {
				t.Errorf("of %d, from %d: %d, %v", n, from, no, s.Reports)
			}
		}
	}
}

// P19.2: of a kid: reports are merged one by one: the newest one is kept.
func TestTakeReportsMerged(t *testing.T) {
	old := there().Reports[0]
	elder, same, newer := old, old, old
	elder.Beat--
	same.Pos, same.Clock = 99, 99
	newer.Beat++
	for _, c := range []struct {
		came []api.Report
		want api.Report
	}{{[]api.Report{elder}, old}, {[]api.Report{same}, old}, {[]api.Report{newer}, newer}, {[]api.Report{newer, elder}, newer}, {[]api.Report{elder, newer, same}, newer}} {
		f := up()
		f.Reports = c.came
		if s, no := take(t, fleet(), there(), f); no != api.OK || len(s.Reports) != 2 || s.Reports[0] != c.want {
			t.Errorf("%v: %d, %v", c.came, no, s.Reports)
		}
	}
}

// P19.2: gifts that a kid's report makes needless go, with the same frame; others stay.
func TestTakeGiftsGo(t *testing.T) {
	five := there().Reports[1]
	for _, c := range []struct {
		inc, mode, chunk int
		stays            bool
	}{{2, joining, 1, true}, {2, joining, 2, false}, {2, live, 0, false}, {3, joining, 0, false}, {1, live, 9, true}} {
		r := five
		r.Inc, r.Beat, r.Mode, r.Chunk = c.inc, 6, c.mode, c.chunk
		s, no := take(t, fleet(), there(), api.Frame{From: 3, To: 1, Boot: 1, Reports: []api.Report{r}})
		if has := slices.Contains(s.Gifts, there().Gifts[0]); no != api.OK || has != c.stays || !slices.Contains(s.Gifts, there().Gifts[1]) {
			t.Errorf("%v: %d, %v", r, no, s.Gifts)
		}
	}
}

// P19.2: gifts that the reports make needless go with whatever frame comes, of the parent or of a kid; but not with one that is refused.
func TestTakeGiftsGoAtLast(t *testing.T) {
	s := there()
	s.Gifts = append(s.Gifts, api.Gift{Dev: 8, Inc: 1})
	s.Reports = append(s.Reports, api.Report{Dev: 6, Inc: 5, Mode: joining})
	want := s
	want.Gifts = []api.Gift{s.Gifts[0], s.Gifts[2]}
	for _, f := range []api.Frame{down(), up()} {
		if got, no := take(t, fleet(), s, f); no != api.OK || !same(got, want) {
			t.Errorf("%v: %d, %v", f, no, got.Gifts)
		}
		f.Boot = 3
		if got, no := take(t, fleet(), s, f); no != api.ErrStale || !same(got, s) {
			t.Errorf("%v: %d, %v", f, no, got.Gifts)
		}
	}
}

// P19.2: what goes up means nothing in a frame of the parent, and what goes down nothing in one of a kid.
func TestTakeOneWay(t *testing.T) {
	f := down()
	f.First, f.Ops, f.Pos = 1, ops(4, 1, 9), 99
	f.Reports = []api.Report{{Dev: 4, Inc: 9, Mode: live}}
	if s, no := take(t, fleet(), there(), f); no != api.OK || !same(s, there()) {
		t.Errorf("of the parent: %d, %v", no, s)
	}
	f = up()
	f.Start, f.Entries, f.Ack, f.Grant, f.S, f.T = 24, entries(24, 2), 9, 99, 22, 99
	f.Gifts = []api.Gift{{Dev: 4, Inc: 9, Total: 1}}
	if s, no := take(t, fleet(), there(), f); no != api.OK || !same(s, there()) {
		t.Errorf("of a kid: %d, %v", no, s)
	}
}
