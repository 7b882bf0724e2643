package device_test

import (
	"math"
	"slices"
	"strings"
	"testing"

	"bargeman/api"
	"bargeman/device"
	"bargeman/gift"
	"bargeman/past"
)

// waiting is there(), waiting for its life 4, with these parts.
func waiting(parts ...string) api.State {
	s := there()
	s.Mode, s.Inc, s.Sent, s.Parts, s.Late = joining, 4, 0, parts, 1
	return s
}

// tree is what the snapshot of these tests has: the past of place 21, at clock 14.
func tree() (api.Past, []api.Count) {
	h := pastOf([]api.Place{at(4, 0, "a"), at(5, 4, "b")}, 7, by(9, 3, 1, 6, at(8, 5, "h")), by(13, 4, 1, 1, at(5, 0, "b")))
	return h, []api.Count{{Dev: 2, Inc: 4}, {Dev: 3, Inc: 1, N: 6}, {Dev: 4, Inc: 1, N: 1}}
}

// snapshot is that of tree().
func snapshot() string {
	h, counts := tree()
	return gift.Freeze(21, 14, h, counts)
}

// come is s, live with the snapshot.
func come(s api.State) api.State {
	s.Mode, s.Sent, s.Parts = live, 0, nil
	s.Stream = api.Stream{S: 21, T: 7, Pos: 21}
	s.Past, s.Counts = tree()
	s.Clock = max(s.Clock, 14)
	return s
}

// left is s behind one life more.
func left(s api.State) api.State {
	s.Mode, s.Sent, s.Parts, s.Inc = joining, 0, nil, s.Inc+1
	return s
}

// chunks is all of text, by size, for life 4 of device 2.
func chunks(text string, size int) []api.Gift {
	var l []api.Gift
	for i := range gift.Chunks(text, size) {
		g, _ := gift.Cut(text, size, i, api.Report{Dev: 2, Inc: 4})
		l = append(l, g)
	}
	return l
}

// giving is a frame to 2 with these gifts; its S is below all places.
func giving(l ...api.Gift) api.Frame {
	return api.Frame{From: 1, To: 2, Boot: 7, Start: 1, Gifts: l}
}

// P18.2: chunk by chunk, a frame each, in whatever sizes: the last one makes it live.
func TestJoin(t *testing.T) {
	for _, size := range []int{1, 2, 7, 16, 31, 32, len(snapshot()) - 1, len(snapshot()), 256} {
		s := waiting()
		l := chunks(snapshot(), size)
		for i, g := range l {
			want := s
			want.Parts = append(slices.Clone(s.Parts), g.Data)
			if i == len(l)-1 {
				want = come(s)
			}
			got, no := take(t, s, giving(g))
			if no != api.OK || !same(got, want) {
				t.Fatalf("by %d, chunk %d: %d, %v", size, i, no, got)
			}
			s = got
		}
		if s.Mode != live || !past.Right(s.Past) {
			t.Errorf("by %d: %v", size, s)
		}
		if again, no := take(t, s, giving(l...)); no != api.OK || !same(again, s) {
			t.Errorf("by %d, all once more: %d, %v", size, no, again)
		}
	}
}

// P18.2: all chunks in one frame, and what stands behind them there; those ahead of their turn count for nothing.
func TestJoinAtOnce(t *testing.T) {
	l := chunks(snapshot(), 9)
	last := len(l) - 1
	none := api.Gift{Dev: 2, Inc: 4}
	for _, c := range []struct {
		what  string
		gifts []api.Gift
		want  api.State
	}{
		{"all", l, come(waiting())},
		{"all, and each twice", slices.Concat(l[:2], l, l), come(waiting())},
		{"all, and that there is none", append(slices.Clone(l), none), come(waiting())},
		{"that there is none, and all", slices.Concat([]api.Gift{none}, l), left(waiting())},
		{"twice that there is none", []api.Gift{none, none}, left(waiting())},
		{"all from the second one on", l[1:], waiting()},
		{"all but the last one", l[:last], waiting(data(l[:last])...)},
		{"all but the second one", slices.Concat(l[:1], l[2:]), waiting(l[0].Data)},
		{"the other way round", []api.Gift{l[2], l[1], l[0]}, waiting(l[0].Data)},
	} {
		if got, no := take(t, waiting(), giving(c.gifts...)); no != api.OK || !same(got, c.want) {
			t.Errorf("%s: %d, %v", c.what, no, got)
		}
	}
}

// data is what each of l has.
func data(l []api.Gift) []string {
	var told []string
	for _, g := range l {
		told = append(told, g.Data)
	}
	return told
}

// P18.2: of all numbers those gifts alone count that are its own: of its Node and Inc, the chunk that it lacks, below Total.
func TestJoinWhich(t *testing.T) {
	near := []int{math.MinInt, -1, 0, 1, 2, 3, 4, 5, mostCount, math.MaxInt}
	for _, dev := range near {
		for _, inc := range near {
			for _, chunk := range near {
				for _, total := range near {
					g := api.Gift{Dev: dev, Inc: inc, Chunk: chunk, Total: total, Data: "more"}
					s := waiting("ab", "")
					want := s
					switch {
					case dev != 2 || inc != 4:
					case total == 0:
						want = left(s)
					case chunk == 2 && total == 3:
						want.Parts = nil // it is no snapshot
					case chunk == 2 && total > 3:
						want.Parts = []string{"ab", "", "more"}
					}
					if got, no := take(t, s, giving(g)); no != api.OK || !same(got, want) {
						t.Fatalf("%v: %d, %v", g, no, got)
					}
				}
			}
		}
	}
}

// P18.2: a live one takes no gifts, nor that there is none.
func TestJoinNone(t *testing.T) {
	s := there()
	for _, inc := range []int{2, 3, 4} {
		for _, total := range []int{0, 1, 2} {
			g := api.Gift{Dev: 2, Inc: inc, Total: total, Data: snapshot()}
			if got, no := take(t, s, giving(g)); no != api.OK || !same(got, s) {
				t.Errorf("%v: %d, %v", g, no, got)
			}
		}
	}
}

// P18.2: Total is the last chunk's, whatever those ahead told.
func TestJoinTotals(t *testing.T) {
	l := chunks(snapshot(), 7)
	for i := range l {
		if i < len(l)-1 {
			l[i].Total += 5 * (i + 1)
		}
	}
	if got, _ := take(t, waiting(), giving(l...)); !same(got, come(waiting())) {
		t.Errorf("%v", got)
	}
	l = chunks(snapshot(), 7)
	l[1].Total = 2 // so these two are all, and no snapshot
	if got, _ := take(t, waiting(), giving(l...)); !same(got, waiting()) {
		t.Errorf("%v", got)
	}
}

// P18.2: what is no snapshot leaves none of its parts, and it still waits for the same life.
func TestJoinNoSnapshot(t *testing.T) {
	good := snapshot()
	bad := []string{"", "x", good[1:], good[:len(good)-1], good + "\x00", good + good, strings.Repeat("\x00", 256)}
	for i := range good {
		b := []byte(good)
		b[i] ^= 0xff
		if _, is := gift.Thaw(string(b)); !is {
			bad = append(bad, string(b))
		}
	}
	for _, text := range bad {
		for _, size := range []int{30, 256} {
			if got, no := take(t, waiting(), giving(chunks(text, size)...)); no != api.OK || !same(got, waiting()) {
				t.Errorf("%q by %d: %d, %v", text, size, no, got)
			}
		}
	}
	if len(bad) < 20 {
		t.Errorf("%d texts", len(bad))
	}
}

// P18.2: behind 256 parts none are left; 256 parts may be all.
func TestJoinMany(t *testing.T) {
	good := snapshot()
	// All of it in the first part, and nothing in the others.
	parts := make([]string, mostParts)
	parts[0] = good
	full := waiting(parts...)
	next := api.Gift{Dev: 2, Inc: 4, Chunk: mostParts, Total: mostParts + 1}
	for _, c := range []struct {
		what string
		s    api.State
		g    api.Gift
		want api.State
	}{
		{"the 256th and last one", waiting(parts[:255]...), api.Gift{Dev: 2, Inc: 4, Chunk: 255, Total: 256}, come(waiting())},
		{"the 256th one", waiting(parts[:255]...), api.Gift{Dev: 2, Inc: 4, Chunk: 255, Total: 257}, full},
		{"the 257th and last one", full, next, waiting()},
		{"the 257th one", full, api.Gift{Dev: 2, Inc: 4, Chunk: mostParts, Total: 999, Data: "x"}, waiting()},
		{"the 256th one again", full, api.Gift{Dev: 2, Inc: 4, Chunk: 255, Total: 999}, full},
		{"the 258th one", full, api.Gift{Dev: 2, Inc: 4, Chunk: 257, Total: 999}, full},
		{"a chunk of no snapshot", full, api.Gift{Dev: 2, Inc: 4, Chunk: mostParts, Total: mostParts}, full},
		{"that there is none", full, api.Gift{Dev: 2, Inc: 4}, left(full)},
	} {
		if got, no := take(t, c.s, giving(c.g)); no != api.OK || !same(got, c.want) {
			t.Errorf("%s: %d, mode %d, %d parts", c.what, no, got.Mode, len(got.Parts))
		}
	}
	// Behind these the first chunk is the one that it lacks: in the same frame, too.
	first := api.Gift{Dev: 2, Inc: 4, Chunk: 0, Total: 1, Data: good}
	if got, _ := take(t, full, giving(next, first)); !same(got, come(waiting())) {
		t.Errorf("behind 256 parts: mode %d, %d parts", got.Mode, len(got.Parts))
	}
}

// P18.2: of both clocks the greater one stays; edits begin anew, and what waits in the queue stays.
func TestJoinClock(t *testing.T) {
	for _, clock := range []int{0, 13, 14, 15, 99, mostCount} {
		s := waiting()
		s.Clock, s.Sent = clock, 5
		got, no := take(t, s, giving(chunks(snapshot(), 40)...))
		if no != api.OK || !same(got, come(s)) || got.Clock != max(14, clock) || got.Sent != 0 || len(got.Queue.Ops) != 2 {
			t.Errorf("clock %d: %d, %v", clock, no, got)
		}
	}
}

// P18.2: one that came to be live goes on with the rest of the same frame: it leaves by S, settles, takes entries.
func TestJoinAndGoOn(t *testing.T) {
	more := by(15, 3, 1, 7, at(9, 5, "m"))
	for _, c := range []struct {
		what  string
		s, t  int
		l     []api.Entry
		start int
		want  func(s *api.State)
	}{
		{"as it is", 21, 7, nil, 22, func(s *api.State) {}},
		{"let go", 22, 99, nil, 22, func(s *api.State) { *s = left(*s) }},
		{"settled", 21, 10, nil, 22, func(s *api.State) {
			s.Past = past.Settle(s.Past, 10)
			s.Stream.T = 10
		}},
		{"settled behind the clock", 21, 30, nil, 22, func(s *api.State) {
			s.Past = past.Settle(s.Past, 30)
			s.Stream.T, s.Clock = 30, 30
		}},
		{"an entry", 0, 0, []api.Entry{moved(more)}, 22, func(s *api.State) {
			s.Past, _ = past.Add(s.Past, more)
			s.Stream.S, s.Stream.Pos, s.Clock = 22, 22, 15
			s.Counts = []api.Count{s.Counts[0], {Dev: 3, Inc: 1, N: 7}, s.Counts[2]}
		}},
		{"entries that it has", 0, 0, []api.Entry{evicted(2, 4), evicted(2, 4)}, 20, func(s *api.State) {}},
		{"its next eviction", 0, 0, []api.Entry{evicted(2, 4)}, 22, func(s *api.State) {
			*s = left(*s)
			s.Stream.S, s.Stream.Pos = 22, 22
		}},
	} {
		f := giving(chunks(snapshot(), 60)...)
		f.S, f.T, f.Entries, f.Start = c.s, c.t, c.l, c.start
		want := come(waiting())
		c.want(&want)
		if got, no := take(t, waiting(), f); no != api.OK || !same(got, want) {
			t.Errorf("%s: %d, %v", c.what, no, got)
		}
	}
}

// P18.2: that there is none for the last life of all leaves it there.
func TestJoinTheLastLife(t *testing.T) {
	s := waiting("ab")
	s.Inc = mostCount
	got, no := take(t, s, giving(api.Gift{Dev: 2, Inc: mostCount}))
	want := waiting()
	want.Inc = mostCount
	if no != api.OK || !same(got, want) {
		t.Errorf("%d, %v", no, got)
	}
}

// P18.1, P18.2: a device that comes back edits in its next life, from number 1 on, behind the snapshot's clock.
func TestJoinAndEdit(t *testing.T) {
	s, _ := take(t, waiting(), giving(chunks(snapshot(), 60)...))
	s.Queue = api.Queue{First: 5, Grant: 5}
	s, no := device.Edit(fleet(), s, at(9, 0, "new"))
	if no != api.OK || !slices.Equal(s.Queue.Ops, []api.Op{by(15, 2, 4, 1, at(9, 0, "new"))}) {
		t.Errorf("%d, %v", no, s.Queue)
	}
	if l := device.Vector(s); !slices.Equal(l, []api.Count{{Dev: 2, Inc: 4, N: 1}, {Dev: 3, Inc: 1, N: 6}, {Dev: 4, Inc: 1, N: 1}}) {
		t.Errorf("counts: %v", l)
	}
}
