package root_test

import (
	"math"
	"slices"
	"testing"

	"bargeman/api"
	"bargeman/gift"
	"bargeman/past"
	"bargeman/root"
)

// take is Take, twice, of states and frames with marked spare room: both answers are the same, and what is handed in stays (DOC.md's rules 3 and 4), even when what was handed in is written over where it may not be kept.
func take(t *testing.T, p api.Plan, s api.State, f api.Frame) (api.State, []int, api.Errno) {
	t.Helper()
	in, frame := copied(s), copiedFrame(f)
	got, heard, no := root.Take(p, in, frame)
	again, those, twice := root.Take(p, in, frame)
	if !same(got, again) || !slices.Equal(heard, those) || no != twice {
		t.Errorf("%v of %v: %d, %v, %v, and then %d, %v, %v", f, s, no, heard, got, twice, those, again)
	}
	if !untouched(in, s) || !untouchedFrame(frame, f) {
		t.Errorf("what was handed in is %v, %v", in, frame)
	}
	scribbleFrame(frame)
	scribble(heard, -77)
	if !same(got, again) {
		t.Errorf("what was handed in was kept: %v", got)
	}
	if no != api.OK && (!same(got, s) || len(those) != 0) {
		t.Errorf("beside the error %d: %v, %v; not %v", no, those, got, s)
	}
	return again, those, no
}

// taken is take of what is no error.
func taken(t *testing.T, p api.Plan, s api.State, f api.Frame) (api.State, []int) {
	t.Helper()
	s, heard, no := take(t, p, s, f)
	if no != api.OK {
		t.Errorf("%v: %d", f, no)
	}
	return s, heard
}

// up is a frame of a kid that tells nothing new.
func up(kid int) api.Frame {
	boots := map[int]int{1: 4, 2: 2, 6: 0}
	return api.Frame{From: kid, To: 0, Boot: boots[kid], First: 1, Start: 1}
}

// told is such a frame, with reports.
func told(kid int, l ...api.Report) api.Frame {
	f := up(kid)
	f.Reports = l
	return f
}

// P20.2: frames that tell nothing new change nothing: what is there can't be let go.
func TestTakeNothing(t *testing.T) {
	for _, kid := range []int{1, 2, 6} {
		if s, heard := taken(t, fleet(), there(), up(kid)); !same(s, there()) || len(heard) != 0 {
			t.Errorf("of %d: %v, %v", kid, heard, s)
		}
	}
}

// P20.2: frames to the root, of a kid, alone.
func TestTakeErrArg(t *testing.T) {
	kids := []int{1, 2, 6}
	for _, n := range edges() {
		_, _, no := take(t, fleet(), there(), api.Frame{From: n, To: 0, Boot: 99})
		if is := slices.Contains(kids, n); is != (no == api.OK) || !is && no != api.ErrArg {
			t.Errorf("from %d: %d", n, no)
		}
		for _, from := range kids {
			_, _, no := take(t, fleet(), there(), api.Frame{From: from, To: n, Boot: 99})
			if (n == 0) != (no == api.OK) || n != 0 && no != api.ErrArg {
				t.Errorf("from %d to %d: %d", from, n, no)
			}
		}
		if _, _, no := take(t, fleet(), api.State{}, api.Frame{From: n, To: 0, Boot: 99}); no != api.ErrArg {
			t.Errorf("without kids, from %d: %d", n, no)
		}
	}
}

// P20.2: of elder starts of just that kid; ErrArg is told first.
func TestTakeErrStale(t *testing.T) {
	for _, c := range []struct{ from, boot int }{{1, 4}, {2, 2}, {6, 0}} {
		for _, n := range edges() {
			want := api.OK
			if n < c.boot {
				want = api.ErrStale
			}
			if _, _, no := take(t, fleet(), there(), api.Frame{From: c.from, To: 0, Boot: n}); no != want {
				t.Errorf("from %d, start %d: %d", c.from, n, no)
			}
			for _, f := range []api.Frame{{From: c.from, To: c.from, Boot: n}, {From: c.from + 7, To: 0, Boot: n}} {
				if _, _, no := take(t, fleet(), there(), f); no != api.ErrArg {
					t.Errorf("%v: %d", f, no)
				}
			}
		}
	}
}

// P20.2: what a refused frame tells changes nothing, whatever it is, not even what could have been let go.
func TestTakeRefused(t *testing.T) {
	s := there()
	s.Members[0].In = false
	f := told(2, api.Report{Dev: 2, Inc: 2, Boot: 9, Mode: joining})
	f.First, f.Ops, f.Pos = 4, []api.Op{by(33, 2, 1, 4)}, 23
	for _, x := range []api.Frame{{From: 2, To: 0, Boot: 1}, {From: 3, To: 0, Boot: 9}, {From: 2, To: 1, Boot: 9}, {From: 0, To: 0, Boot: 9}} {
		f.From, f.To, f.Boot = x.From, x.To, x.Boot
		if _, _, no := take(t, fleet(), s, f); no == api.OK {
			t.Errorf("%v was taken", f)
		}
	}
	f.From, f.To, f.Boot = 2, 0, 2
	if got, _ := taken(t, fleet(), s, f); same(got, s) {
		t.Errorf("%v told nothing", f)
	}
}

// P20.2: of a kid: its start, and what it has, if that is more; of that kid alone.
func TestTakeKid(t *testing.T) {
	for i, kid := range []int{1, 2, 6} {
		first := up(kid).Boot
		for _, boot := range []int{first, first + 1, first + 7, mostCount, math.MaxInt} {
			for _, pos := range []int{math.MinInt, -1, 0, 8, 9, 10, 19, 20, 21, 22, 23, 24, mostCount, math.MaxInt} {
				f, want := up(kid), there()
				f.Boot, f.Pos = boot, pos
				want.Kids[i].Boot = boot
				want.Kids[i].Pos = max(want.Kids[i].Pos, pos)
				if s, heard := taken(t, fleet(), there(), f); !same(s, want) || len(heard) != 0 {
					t.Errorf("of %d, start %d, %d: %v", kid, boot, pos, s.Kids)
				}
			}
		}
	}
}

// P20.2: of a kid: its operations from the next one on, by their numbers, whosever they are; each of them once.
func TestTakeNumbers(t *testing.T) {
	for _, c := range []struct{ first, n, took, from int }{
		{4, 0, 0, 4}, {4, 1, 1, 4}, {4, 3, 3, 4}, {3, 1, 0, 4}, {3, 2, 1, 4}, {1, 3, 0, 4}, {1, 9, 6, 4}, {5, 2, 0, 4}, {9, 2, 0, 4},
		{0, 9, 5, 4}, {-2, 9, 3, 4}, {-9, 9, 0, 4}, {math.MaxInt, 9, 0, 4}, {math.MinInt, 9, 0, 4}, {math.MaxInt - 1, 9, 0, 4},
	} {
		f, want := up(2), there()
		f.First = c.first
		for i := range c.n {
			f.Ops = append(f.Ops, by(40+c.first%100+i, 2, 1, c.first+i))
		}
		l := want.Past.Ops
		entries := want.Stream.Entries
		for i := range c.took {
			o := by(40+c.first%100+c.from-c.first+i, 2, 1, c.from+i)
			l, entries = append(l, o), append(entries, moved(o))
			want.Clock, want.Members[0].Last = o.At.C, o.At.C
		}
		want.Kids[1].Recv += c.took
		want.Members[0].N += c.took
		want.Counts[0].N += c.took
		want.Past = pastAt(25, l...)
		if c.took > 0 { // its report tells of 3 operations, so what is behind the last one may still come: 25 of the device 3 holds
			lay(&want, 20, entries...)
		}
		if s, _ := taken(t, fleet(), there(), f); !same(s, want) {
			t.Errorf("%v: %v; not %v", c, s, want)
		}
	}
}

// P20.2, P7: no more operations than there is room for in the window; what finds none isn't acknowledged, nor what is behind it.
func TestTakeWindow(t *testing.T) {
	for quota, most := range map[int]int{1: 12, 2: 16, 8: 40} {
		p := fleet()
		p.Quota = quota
		for n := range most + 3 {
			s := there()
			var l []api.Entry
			for i := range n {
				l = append(l, evicted(5, i+1))
			}
			lay(&s, 20, l...)
			f := up(2)
			f.First = 3
			for i := range 5 {
				f.Ops = append(f.Ops, by(33+i, 2, 1, 3+i))
			}
			took := max(0, min(4, most-n))
			got, _ := taken(t, p, s, f)
			if got.Kids[1].Recv != 3+took || got.Stream.Pos != 20+n+took || got.Members[0].N != 3+took || len(got.Past.Ops) != 2+took {
				t.Errorf("window %d, %d entries: %v", most, n, got)
			}
		}
	}
}

// P20.2: an operation that is no entry takes no room, and is acknowledged; but none is where there is no room.
func TestTakeWindowOfOthers(t *testing.T) {
	s := there()
	var l []api.Entry
	for i := range 11 {
		l = append(l, evicted(5, i+1))
	}
	lay(&s, 20, l...)
	f := up(2)
	f.First, f.Ops = 4, []api.Op{by(33, 5, 2, 8), by(34, 2, 2, 4), by(35, 2, 1, 4), by(36, 5, 2, 8), by(37, 2, 1, 5)}
	got, _ := taken(t, fleet(), s, f)
	if got.Kids[1].Recv != 6 || got.Members[0].N != 4 || len(got.Stream.Entries) != 12 || got.Clock != 35 {
		t.Errorf("%v", got)
	}
}

// P20.2, P6: which operations count: the next ones of members' lives; the others are acknowledged, and that is all.
func TestTakeMembers(t *testing.T) {
	for _, c := range []struct {
		dev, inc, num int
		counts        bool
	}{
		{2, 1, 4, true}, {2, 1, 3, false}, {2, 1, 5, false}, {2, 1, 1, false}, {2, 2, 4, false}, {2, 0, 4, false}, {2, 2, 1, false},
		{3, 4, 1, true}, {3, 4, 2, false}, {3, 4, 0, false}, {3, 3, 1, false}, {3, 5, 1, false},
		{5, 2, 8, false}, {5, 3, 1, false}, {6, 3, 2, false}, {6, 4, 1, false},
		{0, 1, 1, false}, {1, 1, 1, false}, {4, 1, 1, false}, {7, 1, 1, false}, {-1, 1, 1, false}, {math.MaxInt, 1, 1, false},
	} {
		for i, kid := range []int{1, 2, 6} { // whether the device is below the kid is of no account
			f, want := up(kid), there()
			o := by(33, c.dev, c.inc, c.num)
			f.First, f.Ops = want.Kids[i].Recv+1, []api.Op{o}
			want.Kids[i].Recv++
			if c.counts {
				at := slices.IndexFunc(want.Members, func(m api.Member) bool { return m.Dev == c.dev })
				want.Members[at].N, want.Members[at].Last = c.num, 33
				want.Counts[at] = api.Count{Dev: c.dev, Inc: c.inc, N: c.num}
				want.Clock = 33
				settled := 25
				if c.dev == 3 { // its report tells of none, so it holds nothing back that is ahead of the last one
					settled = 29
				}
				want.Past = pastAt(settled, append(want.Past.Ops, o)...)
				lay(&want, 20, append(want.Stream.Entries, moved(o))...)
			}
			if s, heard := taken(t, fleet(), there(), f); !same(want, s) || len(heard) != 0 {
				t.Errorf("%v, from %d: %v; not %v", c, kid, s, want)
			}
		}
	}
}

// P20.2: Last is the last one's counter, the clock the greatest; what comes late, or at a moment that there is, is counted as such, and is an entry all the same.
func TestTakeLate(t *testing.T) {
	for _, c := range []struct {
		dev, at, clock int
		late           bool
	}{
		{2, 33, 33, false}, {2, 32, 32, false}, {2, 31, 32, false}, {2, 28, 32, false}, {2, 27, 32, false}, {3, 26, 32, false}, {3, 29, 32, false}, {3, 30, 32, false},
		{2, 26, 32, true}, {2, 30, 32, true}, {2, 25, 32, true}, {3, 25, 32, true}, {3, 24, 32, true}, {3, 1, 32, true},
		{2, mostCount, mostCount, false},
	} {
		s := there()
		f := up(2)
		i := c.dev - 2
		m := s.Members[i]
		o := by(c.at, c.dev, m.Inc, m.N+1)
		f.First, f.Ops = 4, []api.Op{o}
		got, _ := taken(t, fleet(), s, f)
		late, n := 2, 1
		if c.late {
			late, n = 3, 0
		}
		g := got.Members[i]
		if got.Late != late || past.Of(got.Past, c.dev) != past.Of(s.Past, c.dev)+n || got.Clock != c.clock || g.Last != c.at || g.N != m.N+1 || got.Kids[1].Recv != 4 {
			t.Errorf("%v: %v", c, got)
		}
		if got.Stream.Pos != 24 || got.Stream.Entries[3] != moved(o) || got.Counts[i].N != m.N+1 {
			t.Errorf("%v: %v, %v", c, got.Stream, got.Counts)
		}
	}
}

// P20.2: the past is a tree by moments: an operation that comes behind another one, but is of an earlier moment, is done ahead of it.
func TestTakePast(t *testing.T) {
	f, want := up(2), there()
	o := api.Op{At: api.Stamp{C: 27, Dev: 3}, Inc: 4, Num: 1, Node: 9, Up: 5, Name: "y"}
	f.First, f.Ops = 4, []api.Op{o}
	want.Past = pastAt(26, by(26, 2, 1, 2), o, by(30, 2, 1, 3))
	if s, _ := taken(t, fleet(), there(), f); !same(api.State{Past: s.Past}, api.State{Past: want.Past}) {
		t.Errorf("%v; not %v", s.Past, want.Past)
	}
}

// P20.2: several operations of several devices, one behind the other.
func TestTakeMany(t *testing.T) {
	f, want := up(1), there()
	l := []api.Op{by(33, 3, 4, 1), by(34, 5, 2, 8), by(31, 3, 4, 2), by(35, 3, 4, 2), by(36, 2, 1, 4)}
	f.First, f.Ops = 5, append([]api.Op{by(50, 3, 4, 1)}, l...) // the first one came once before
	want.Kids[0].Recv = 10
	want.Members[0].N, want.Members[0].Last = 4, 36
	want.Members[1].N, want.Members[1].Last = 2, 31
	want.Counts[0].N, want.Counts[1].N = 4, 2
	want.Clock = 36
	// What the devices' reports tell is behind, so the last ones count, but those in the stream are lesser.
	want.Past = pastAt(29, by(26, 2, 1, 2), by(30, 2, 1, 3), l[2], l[0], l[4])
	lay(&want, 20, evicted(5, 2), admitted(3, 4), moved(by(30, 2, 1, 3)), moved(l[0]), moved(l[2]), moved(l[4]))
	if s, _ := taken(t, fleet(), there(), f); !same(s, want) {
		t.Errorf("%v; not %v", s, want)
	}
}

// P20.2: what goes down means nothing in a frame of a kid.
func TestTakeOneWay(t *testing.T) {
	f := up(1)
	f.Start, f.Entries, f.Ack, f.Grant, f.S, f.T = 24, []api.Entry{evicted(2, 1)}, 9, 99, 23, 99
	f.Gifts = []api.Gift{{Dev: 3, Inc: 9, Total: 1}}
	if s, heard := taken(t, fleet(), there(), f); !same(s, there()) || len(heard) != 0 {
		t.Errorf("%v, %v", heard, s)
	}
}

// P20.2: of a member that is live: a newer report of its life takes the place of its own, whole, and its snapshot is let go; none other does anything.
func TestReportLive(t *testing.T) {
	for _, inc := range []int{1, 3, 4, 5} {
		for _, boot := range []int{0, 1, 2} {
			for _, beat := range []int{4, 5, 6} {
				r := api.Report{Dev: 3, Inc: inc, Boot: boot, Beat: beat, Mode: live, Pos: 21, Clock: 24, Sent: 5, Chunk: 7}
				want := there()
				is := inc == 4 && (boot > 1 || boot == 1 && beat > 5)
				var l []int
				if is {
					want.Members[1].Report, want.Members[1].Frozen = r, ""
					l = []int{3}
				}
				if s, heard := taken(t, fleet(), there(), told(1, r)); !same(s, want) || !fits(heard, l...) {
					t.Errorf("%v: %v, %v", r, heard, s.Members)
				}
			}
		}
	}
}

// P20.2: of a member that waits: of a newer report of its life those fields alone that tell how far it is; nothing is let go.
func TestReportJoining(t *testing.T) {
	for i, kid := range []int{2, 1} { // a live one's, too
		dev := i + 2
		for _, inc := range []int{0, 1, 2, 3, 4, 5, mostCount} {
			for _, boot := range []int{0, 1, 2, 3} {
				for _, beat := range []int{4, 5, 6, 8, 9} {
					r := api.Report{Dev: dev, Inc: inc, Boot: boot, Beat: beat, Mode: joining, Pos: 23, Clock: 40, Sent: 5, Chunk: 2}
					want := there()
					m := &want.Members[i]
					var l []int
					if inc == m.Inc && (boot > m.Report.Boot || boot == m.Report.Boot && beat > m.Report.Beat) {
						m.Report.Boot, m.Report.Beat, m.Report.Mode, m.Report.Chunk = boot, beat, joining, 2
						l = []int{dev}
					}
					if s, heard := taken(t, fleet(), there(), told(kid, r)); !same(s, want) || !fits(heard, l...) {
						t.Errorf("%v: %v, %v", r, heard, s.Members)
					}
				}
			}
		}
	}
}

// P20.2: of a member: a newer report of its life that is neither live nor joining is none of those that do something.
func TestReportOfNoMode(t *testing.T) {
	for _, mode := range []int{math.MinInt, -1, 0, 3, math.MaxInt} {
		r := api.Report{Dev: 3, Inc: 4, Boot: 9, Mode: mode, Pos: 23, Clock: 40, Chunk: 2}
		if s, heard := taken(t, fleet(), there(), told(1, r)); !same(s, there()) || len(heard) != 0 {
			t.Errorf("%v: %v, %v", r, heard, s.Members)
		}
	}
}

// P20.2: of who isn't a member, and waits in the life that is over: a newer report is kept, whole; it is told then that there is nothing for it.
func TestReportOfEvicted(t *testing.T) {
	for _, mode := range []int{live, joining, 0, 3} {
		for _, inc := range []int{0, 1, 2, 3} {
			for _, boot := range []int{1, 2, 3} {
				for _, beat := range []int{3, 4, 5} {
					r := api.Report{Dev: 6, Inc: inc, Boot: boot, Beat: beat, Mode: mode, Pos: 23, Clock: 40, Sent: 5, Chunk: 2}
					want := there()
					var l []int
					if mode == joining && inc == 3 && (boot > 2 || boot == 2 && beat > 4) {
						want.Members[3].Report = r
						l = []int{6}
					}
					if s, heard := taken(t, fleet(), there(), told(6, r)); !same(s, want) || !fits(heard, l...) {
						t.Errorf("%v: %v, %v", r, heard, s.Members)
					}
				}
			}
		}
	}
	s, _ := taken(t, fleet(), there(), told(1, api.Report{Dev: 5, Inc: 2, Boot: 4, Mode: joining}))
	if l := root.Frames(fleet(), s)[0].Gifts; s.Members[2].Report.Boot != 4 || len(l) != 2 || l[1] != (api.Gift{Dev: 5, Inc: 2}) {
		t.Errorf("%v, %v", s.Members, l)
	}
}

// P20.2: a device that isn't a member comes in again with a greater life, when it waits for that: its admission is an entry, and its snapshot is frozen just there.
func TestAdmission(t *testing.T) {
	for _, inc := range []int{4, 5, 99, mostCount} {
		for _, boot := range []int{0, 1, 2, 3} { // neither its start nor its beat need be newer
			r := api.Report{Dev: 6, Inc: inc, Boot: boot, Beat: boot, Mode: joining, Pos: 99, Clock: 98, Sent: 97, Chunk: boot}
			want := there()
			want.Counts[3] = api.Count{Dev: 6, Inc: inc}
			lay(&want, 20, append(want.Stream.Entries, admitted(6, inc))...)
			want.Members[3] = api.Member{
				Dev: 6, Inc: inc, In: true, Last: 32, Out: 9,
				Report: api.Report{Dev: 6, Inc: inc, Boot: boot, Beat: boot, Mode: joining, Pos: 24, Clock: 32, Chunk: boot},
				Frozen: gift.Freeze(24, 32, want.Past, want.Counts),
			}
			s, heard := taken(t, fleet(), there(), told(6, r))
			if !same(s, want) || !fits(heard, 6) {
				t.Errorf("%v: %v, %v; not %v", r, heard, s, want)
			}
			if again, heard := taken(t, fleet(), s, told(6, r)); !same(again, s) || len(heard) != 0 {
				t.Errorf("%v again: %v, %v", r, heard, again)
			}
		}
	}
}

// P20.2: no admission of an elder life, or of a live device, or of a member.
func TestNoAdmission(t *testing.T) {
	for _, r := range []api.Report{
		{Dev: 6, Inc: 2, Boot: 9, Mode: joining}, {Dev: 6, Inc: math.MinInt, Boot: 9, Mode: joining},
		{Dev: 6, Inc: 4, Boot: 9, Mode: live}, {Dev: 6, Inc: 4, Boot: 9, Mode: 0}, {Dev: 6, Inc: 4, Boot: 9, Mode: 3},
	} {
		if s, heard := taken(t, fleet(), there(), told(6, r)); !same(s, there()) || len(heard) != 0 {
			t.Errorf("%v: %v, %v", r, heard, s)
		}
	}
	for _, inc := range []int{2, 5, mostCount} {
		if s, heard := taken(t, fleet(), there(), told(2, api.Report{Dev: 2, Inc: inc, Boot: 9, Mode: joining})); !same(s, there()) || len(heard) != 0 {
			t.Errorf("of a member, %d: %v, %v", inc, heard, s)
		}
	}
}

// P20.2: no admission as long as all members don't have the eviction, or an operation of an elder life isn't settled.
func TestAdmissionWaits(t *testing.T) {
	r := api.Report{Dev: 6, Inc: 4, Boot: 2, Beat: 9, Mode: joining}
	for _, out := range []int{0, 9, 19, 20, 21, 23, 24} {
		for _, dev := range []int{2, 3, 5, 6} {
			for _, inc := range []int{1, 3, 4} {
				s := there()
				s.Members[3].Out = out
				s.Past = pastAt(25, by(26, 2, 1, 2), by(29, dev, inc, 9), by(30, 2, 1, 3))
				got, heard := taken(t, fleet(), s, told(6, r))
				if is := out <= 20 && dev != 6; got.Members[3].In != is || fits(heard, 6) != is || !is && (!same(got, s) || len(heard) != 0) {
					t.Errorf("evicted at %d, with an operation of %d: %v, %v", out, dev, heard, got)
				}
			}
		}
	}
}

// P20.2: what is let go is let go at last: what a frame's own reports make stable counts for the next one.
func TestAdmissionBehindStable(t *testing.T) {
	five := api.Report{Dev: 5, Inc: 3, Boot: 3, Beat: 1, Mode: joining}
	s, heard := taken(t, fleet(), there(), told(2, api.Report{Dev: 2, Inc: 1, Boot: 2, Beat: 9, Mode: live, Pos: 23, Clock: 32, Sent: 3}))
	if s.Stream.S != 22 || !fits(heard, 2) {
		t.Fatalf("%v, %v", heard, s)
	}
	s, heard = taken(t, fleet(), s, told(1, five))
	if !s.Members[2].In || s.Members[2].Out != 21 || s.Members[2].Report.Pos != 24 || !fits(heard, 5) {
		t.Errorf("%v, %v", heard, s)
	}
	s = there()
	s.Members[0].Report.Pos = 23
	s.Members[1].Report.Pos = 20
	three := api.Report{Dev: 3, Inc: 4, Boot: 1, Beat: 6, Mode: live, Pos: 23, Clock: 32}
	got, heard := taken(t, fleet(), s, told(1, three, five))
	if got.Members[2].In || got.Stream.S != 23 || !fits(heard, 3) {
		t.Errorf("at once: %v, %v", heard, got)
	}
	if got, heard = taken(t, fleet(), got, told(1, five)); !got.Members[2].In || !fits(heard, 5) {
		t.Errorf("and then: %v, %v", heard, got)
	}
}

// P20.2: an admission needs no room in the window, and several come one behind the other, behind the same frame's operations.
func TestAdmissions(t *testing.T) {
	s := there()
	s.Members[1].In, s.Members[1].Frozen, s.Members[2].Out = false, "", 12
	var l []api.Entry
	for n := range 11 {
		l = append(l, evicted(6, n+1))
	}
	lay(&s, 20, l...)
	o := by(40, 2, 1, 4)
	f := told(1, api.Report{Dev: 3, Inc: 5, Mode: joining}, api.Report{Dev: 5, Inc: 6, Mode: joining})
	f.First, f.Ops = 6, []api.Op{o}
	got, heard := taken(t, fleet(), s, f)
	counts := []api.Count{{Dev: 2, Inc: 1, N: 4}, {Dev: 3, Inc: 5}, {Dev: 5, Inc: 2, N: 7}, {Dev: 6, Inc: 3, N: 1}}
	whole := pastAt(25, append(there().Past.Ops, o)...)
	three, five := got.Members[1], got.Members[2]
	if !fits(heard, 3, 5) || got.Stream.Pos != 34 || len(got.Stream.Entries) != 14 || got.Late != 2 {
		t.Errorf("%v, %v", heard, got.Stream)
	}
	if !three.In || three.Last != 40 || three.Report.Pos != 33 || three.Report.Clock != 40 || three.Frozen != gift.Freeze(33, 40, whole, counts) {
		t.Errorf("%v", three)
	}
	counts[2] = api.Count{Dev: 5, Inc: 6}
	if !five.In || five.Last != 40 || five.Report.Pos != 34 || five.Frozen != gift.Freeze(34, 40, whole, counts) || !slices.Equal(got.Counts, counts) {
		t.Errorf("%v, %v", five, got.Counts)
	}
}

// P20.2: reports of devices at or below the kid alone; of relays, others, and what is no node nothing is told, nor is it heard.
func TestReportsBelow(t *testing.T) {
	below := map[int][]int{1: {3, 5}, 2: {2}, 6: {6}}
	s := there()
	for i := range s.Members {
		s.Members[i] = api.Member{Dev: s.Members[i].Dev, Inc: 4, In: true, Report: api.Report{Dev: s.Members[i].Dev, Inc: 4, Mode: live}}
	}
	for _, dev := range []int{0, 1, 4, 7} { // even if there were such members
		s.Members = append(s.Members, api.Member{Dev: dev, Inc: 4, In: true, Report: api.Report{Dev: dev, Inc: 4, Mode: live}})
	}
	for kid, devices := range below {
		for _, n := range edges() {
			r := api.Report{Dev: n, Inc: 4, Boot: 1, Mode: live, Pos: 7}
			got, heard := taken(t, fleet(), s, told(kid, r))
			want := s
			if slices.Contains(devices, n) {
				want.Members = slices.Clone(s.Members)
				want.Members[slices.Index([]int{2, 3, 5, 6}, n)].Report = r
			}
			if fits(heard, n) != slices.Contains(devices, n) || len(heard) > 1 || !same(api.State{Members: got.Members}, api.State{Members: want.Members}) {
				t.Errorf("of %d, from %d: %v, %v", n, kid, heard, got.Members)
			}
		}
	}
}

// P20.2: of a device that the root doesn't know nothing is told, nor is it heard.
func TestReportOfNoMember(t *testing.T) {
	s := there()
	s.Members = s.Members[:1]
	want := s
	want.Past = pastAt(29, s.Past.Ops...)
	lay(&want, 20, s.Stream.Entries...)
	for _, mode := range []int{live, joining} {
		for _, inc := range []int{0, 1, 9} {
			if got, heard := taken(t, fleet(), s, told(1, api.Report{Dev: 3, Inc: inc, Boot: 9, Mode: mode})); !same(got, want) || len(heard) != 0 {
				t.Errorf("%d: %v, %v", inc, heard, got)
			}
		}
	}
}

// P20.2: lives are held against the member's, whatever life its report is of.
func TestReportOfOtherLife(t *testing.T) {
	s := there()
	s.Members[3].Report.Inc = 5
	for inc, is := range map[int]bool{2: false, 3: false, 4: true, 5: true, 6: true} {
		got, heard := taken(t, fleet(), s, told(6, api.Report{Dev: 6, Inc: inc, Boot: 9, Mode: joining}))
		if m := got.Members[3]; m.In != is || fits(heard, 6) != is || is && m.Inc != inc || !is && !same(got, s) {
			t.Errorf("of %d: %v, %v", inc, heard, got.Members)
		}
	}
	for _, inc := range []int{1, 3, 5, 9} { // of the member's own life, but the one that it has is of this one
		s := there()
		s.Members[1].Report.Inc = inc
		is := inc < 4
		for _, mode := range []int{live, joining} {
			got, heard := taken(t, fleet(), s, told(1, api.Report{Dev: 3, Inc: 4, Boot: 9, Mode: mode, Pos: 20, Chunk: 5}))
			if m := got.Members[1]; fits(heard, 3) != is || (m.Report.Boot == 9) != is || !is && !same(got, s) {
				t.Errorf("behind %d: %v, %v", inc, heard, m)
			}
		}
	}
}

// P20.2: those that are told are the devices of the reports that counted, in the frame's order.
func TestHeard(t *testing.T) {
	p := api.Plan{Up: []int{-1, 0, 1, 1, 1, 1}, Quota: 1, Room: 4, Batch: 2, Lease: 40, Wait: 2, Chunk: 16, Keep: 4, Ids: 16}
	s := root.New(p)
	s, no := evict(t, s, 3)
	s, too := evict(t, s, 5)
	if no != api.OK || too != api.OK {
		t.Fatal(no, too)
	}
	all := []api.Report{
		{Dev: 4, Inc: 1, Boot: 1, Beat: 2, Mode: live, Pos: 2}, {Dev: 5, Inc: 1, Boot: 1, Mode: joining}, {Dev: 3, Inc: 1, Boot: 1, Mode: live},
		{Dev: 2, Inc: 1, Boot: 1, Beat: 7, Mode: joining}, {Dev: 1, Inc: 1, Boot: 1, Mode: live}, {Dev: 4, Inc: 1, Boot: 1, Beat: 1, Mode: live},
	}
	s, heard := taken(t, p, s, api.Frame{From: 1, To: 0, Boot: 1, Reports: all})
	if !fits(heard, 4, 5, 2) {
		t.Errorf("%v", heard)
	}
	if _, heard = taken(t, p, s, api.Frame{From: 1, To: 0, Boot: 1, Reports: all}); len(heard) != 0 {
		t.Errorf("again: %v", heard)
	}
	s.Stream.S = 2
	s.Stream.Entries = nil
	for i, want := range [][]int{{3, 5, 4}, nil} {
		all := []api.Report{{Dev: 3, Inc: 2, Mode: joining}, {Dev: 5, Inc: 9, Mode: joining}, {Dev: 4, Inc: 1, Boot: 2, Mode: live, Pos: 2}}
		if s, heard = taken(t, p, s, api.Frame{From: 1, To: 0, Boot: 1, Reports: all}); !fits(heard, want...) {
			t.Errorf("the %d-th time: %v", i, heard)
		}
	}
}

// P20.2: it advances to what all members have: entries up to the least place, the past up to the least counter.
func TestAdvance(t *testing.T) {
	for _, c := range []struct{ pos, clock, sent, last, threePos, threeClock, s, t int }{
		{20, 31, 3, 30, 22, 25, 20, 25}, {21, 31, 3, 30, 22, 25, 21, 25}, {22, 31, 3, 30, 22, 25, 22, 25}, {23, 31, 3, 30, 22, 25, 22, 25},
		{99, 31, 3, 30, 99, 25, 23, 25}, {0, 31, 3, 30, 22, 25, 20, 25}, {23, 31, 3, 30, 23, 25, 23, 25},
		{20, 31, 3, 30, 22, 26, 20, 26}, {20, 31, 3, 30, 22, 28, 20, 28}, {20, 31, 3, 30, 22, 40, 20, 29}, {22, 31, 3, 30, 22, 40, 22, 29},
		{23, 31, 3, 30, 23, 40, 23, 31}, {23, 99, 3, 30, 23, 40, 23, 32}, {23, 99, 3, 30, 23, 99, 23, 32}, {23, 29, 3, 30, 23, 40, 23, 29},
		{23, 31, 2, 30, 23, 40, 23, 30}, {23, 31, 4, 30, 23, 40, 23, 30}, {23, 31, 4, 27, 23, 40, 23, 27}, {23, 31, 4, 20, 23, 40, 23, 25},
	} {
		s := there()
		s.Members[0].Last = c.last
		s.Members[1].Report.Pos, s.Members[1].Report.Clock = c.threePos, c.threeClock
		r := api.Report{Dev: 2, Inc: 1, Boot: 2, Beat: 9, Mode: live, Pos: c.pos, Clock: c.clock, Sent: c.sent}
		got, _ := taken(t, fleet(), s, told(2, r))
		want := s
		want.Members = slices.Clone(s.Members)
		want.Members[0].Report = r
		want.Past = pastAt(c.t, s.Past.Ops...)
		lay(&want, c.s, s.Stream.Entries[c.s-20:]...)
		if !same(got, want) {
			t.Errorf("%v: %v; not %v", c, got, want)
		}
	}
}

// P20.2: it advances with a frame that tells nothing, too, by what it knows.
func TestAdvanceAlways(t *testing.T) {
	s := there()
	s.Members[0].In, s.Members[1].In = false, false
	for i, kid := range []int{1, 2, 6} {
		s.Stream.T = []int{7, 25, 40}[i] // it is the past's
		got, _ := taken(t, fleet(), s, up(kid))
		want := s
		want.Past = pastAt(32, s.Past.Ops...)
		lay(&want, 23)
		if !same(got, want) {
			t.Errorf("%v; not %v", got, want)
		}
	}
}

// The chapter's example: a device's operation, another one's eviction: two entries.
func TestExample(t *testing.T) {
	o := by(1, 2, 1, 1)
	s, _ := taken(t, fleet(), root.New(fleet()), api.Frame{From: 2, To: 0, Boot: 1, First: 1, Ops: []api.Op{o}})
	s, no := evict(t, s, 6)
	if no != api.OK || !slices.Equal(s.Stream.Entries, []api.Entry{moved(o), evicted(6, 1)}) || s.Stream.Pos != 2 || s.Members[3].Out != 2 {
		t.Errorf("%d, %v", no, s)
	}
}
