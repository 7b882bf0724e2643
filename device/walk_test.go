package device_test

import (
	"math/rand"
	"slices"
	"strings"
	"testing"

	"bargeman/api"
	"bargeman/device"
	"bargeman/gift"
	"bargeman/move"
	"bargeman/past"
	"bargeman/stamp"
)

// added is h with o, as the words tell it, all done anew from the base on.
func added(h api.Past, o api.Op) (api.Past, bool) {
	if o.At.C <= h.T || slices.ContainsFunc(h.Ops, func(x api.Op) bool { return x.At == o.At }) {
		return h, false
	}
	h.Ops = append(slices.Clone(h.Ops), o)
	slices.SortFunc(h.Ops, func(a, b api.Op) int {
		if stamp.Before(a.At, b.At) {
			return -1
		}
		return 1
	})
	h.Now, h.Undos = move.Fold(h.Base, h.Ops)
	return h, true
}

// settled is h with what has a counter up to t in its base, all done anew.
func settled(h api.Past, t int) api.Past {
	if t <= h.T {
		return h
	}
	h.T = t
	var old, new []api.Op
	for _, o := range h.Ops {
		if o.At.C <= t {
			old = append(old, o)
		} else {
			new = append(new, o)
		}
	}
	h.Base, _ = move.Fold(h.Base, old)
	h.Ops = new
	h.Now, h.Undos = move.Fold(h.Base, h.Ops)
	return h
}

// counted is l with c among it, by a table of devices.
func counted(l []api.Count, c api.Count) []api.Count {
	var table [nodes]*api.Count
	for i := range l {
		table[l[i].Dev] = &l[i]
	}
	table[c.Dev] = &c
	var told []api.Count
	for _, x := range table {
		if x != nil {
			told = append(told, *x)
		}
	}
	return told
}

// told is Take as the chapter's words tell it, one behind the other, place by place.
func told(p api.Plan, s api.State, f api.Frame) (api.State, api.Errno) {
	if f.To != s.Node || p.Up[s.Node] != f.From {
		return s, api.ErrArg
	}
	if f.Boot < s.Above {
		return s, api.ErrStale
	}
	s.Above = f.Boot
	s.Queue.Grant = max(s.Queue.Grant, f.Grant)
	for len(s.Queue.Ops) > 0 && s.Queue.First <= f.Ack {
		s.Queue.First++
		s.Queue.Ops = s.Queue.Ops[1:]
	}
	if s.Mode == joining {
		s = toldGifts(s, f.Gifts)
	}
	if s.Mode == live && f.S > s.Stream.Pos {
		return left(s), api.OK
	}
	if s.Mode == live {
		s.Past = settled(s.Past, f.T)
		s.Stream.T = s.Past.T
		s.Clock = max(s.Clock, s.Past.T)
		s = toldEntries(s, f)
	}
	return s, api.OK
}

// toldGifts is s behind the gifts.
func toldGifts(s api.State, l []api.Gift) api.State {
	for _, g := range l {
		if s.Mode != joining || g.Dev != s.Node || g.Inc != s.Inc {
			continue
		}
		if g.Total == 0 {
			s = left(s)
			continue
		}
		if g.Chunk != len(s.Parts) || g.Chunk >= g.Total {
			continue
		}
		if len(s.Parts) == mostParts {
			s.Parts = nil
			continue
		}
		all := append(slices.Clone(s.Parts), g.Data)
		s.Parts = all
		if len(all) < g.Total {
			continue
		}
		s.Parts = nil
		if x, is := gift.Thaw(strings.Join(all, "")); is {
			s.Mode, s.Sent = live, 0
			s.Stream, s.Past, s.Counts = x.Stream, x.Past, x.Counts
			s.Clock = max(s.Clock, x.Clock)
		}
	}
	return s
}

// toldEntries is s, which is live, behind the entries of f.
func toldEntries(s api.State, f api.Frame) api.State {
	for i, e := range f.Entries {
		if s.Mode != live || f.Start+i != s.Stream.Pos+1 {
			continue
		}
		s.Stream.Pos = f.Start + i
		s.Stream.S = f.Start + i
		switch {
		case e.Kind == 3:
			s.Counts = counted(s.Counts, api.Count{Dev: e.Dev, Inc: e.Inc})
		case e.Kind == 2 && e.Dev == s.Node && e.Inc == s.Inc:
			s = left(s)
		case e.Kind == 1:
			s.Counts = counted(s.Counts, api.Count{Dev: e.Op.At.Dev, Inc: e.Op.Inc, N: e.Op.Num})
			s.Clock = max(s.Clock, e.Op.At.C)
			if e.Op.At.Dev == s.Node && e.Op.Inc == s.Inc {
				continue
			}
			h, took := added(s.Past, e.Op)
			s.Past = h
			if !took {
				s.Late++
			}
		}
	}
	return s
}

// some answers a number from least to most.
func some(r *rand.Rand, least, most int) int { return least + r.Intn(most-least+1) }

// anyPlace is where an edit may move to, mostly.
func anyPlace(r *rand.Rand) api.Place {
	return at(some(r, 1, 10), some(r, 0, 10), string(rune('a'+some(r, 0, 2))))
}

// anyEntry is one that s may meet.
func anyEntry(r *rand.Rand, s api.State) api.Entry {
	dev, inc := some(r, 1, 4), max(1, s.Inc+some(r, -1, 1))
	switch some(r, 0, 9) {
	case 0:
		return evicted(dev, inc)
	case 1:
		return admitted(dev, inc)
	}
	x := at(some(r, 2, 10), 0, string(rune('a'+some(r, 0, 2))))
	if up := some(r, 0, 10); up != x.Node {
		x.Up = up
	}
	return moved(by(max(1, s.Clock+some(r, -6, 3)), dev, inc, some(r, 1, 9), x))
}

// anyGift is one that s may meet; frozen is a snapshot.
func anyGift(r *rand.Rand, s api.State, frozen string) api.Gift {
	size := some(r, 20, 60)
	inc := s.Inc
	if some(r, 0, 5) == 0 {
		inc += some(r, -1, 1)
	}
	g, is := gift.Cut(frozen, size, len(s.Parts)+some(r, 0, 3)/3, api.Report{Dev: some(r, 2, 3), Inc: inc})
	switch {
	case !is || some(r, 0, 30) == 0:
		return api.Gift{Dev: 2, Inc: inc}
	case some(r, 0, 2) == 0:
		g.Total = g.Chunk + some(r, 0, 2)
	case some(r, 0, 1) == 0:
		return api.Gift{Dev: 2, Inc: s.Inc, Chunk: len(s.Parts), Total: len(s.Parts) + 1, Data: frozen}
	}
	return g
}

// anyFrame is one that s may meet.
func anyFrame(r *rand.Rand, s api.State, frozen string) api.Frame {
	f := api.Frame{From: 1, To: 2, Boot: s.Above + some(r, 0, 20)/20, Ack: s.Queue.First + some(r, -2, 2), Grant: s.Queue.First + some(r, -2, 4)}
	f.S = s.Stream.Pos - some(r, 0, 5)
	f.T = s.Past.T + some(r, -2, 2)
	f.Start = s.Stream.Pos + 1 - some(r, 0, 2)
	switch some(r, 0, 30) {
	case 0:
		f.From = some(r, 0, 3)
	case 1:
		f.To = some(r, 1, 3)
	case 2:
		f.Boot--
	case 3:
		f.S = s.Stream.Pos + some(r, 0, 2)
	case 4:
		f.Start = s.Stream.Pos + some(r, 2, 4)
	}
	for range some(r, 0, 3) {
		f.Entries = append(f.Entries, anyEntry(r, s))
	}
	for range some(r, 0, 2) {
		f.Gifts = append(f.Gifts, anyGift(r, s, frozen))
	}
	return f
}

// P18.1, P18.2: long walks, each step as the words tell it; what is handed in stays (DOC.md's rule 3), and what is answered hangs on that alone (rule 4).
func TestWalk(t *testing.T) {
	var lives, edits, lates int
	for seed := range 60 {
		r := rand.New(rand.NewSource(int64(seed)))
		s, p := device.New(2), fleet()
		p.Quota = some(r, 1, 4)
		for range 300 {
			if some(r, 0, 3) == 0 {
				x := anyPlace(r)
				was := s
				in := copied(was)
				got, no := device.Edit(p, in, x)
				if !untouched(in, was) || no == api.OK && !same(got, edited(was, x)) || no != api.OK && !same(got, was) {
					t.Fatalf("seed %d: edit %v of %v: %d, %v", seed, x, was, no, got)
				}
				if no == api.OK {
					edits++
				}
				s = got
				continue
			}
			h := settled(s.Past, s.Past.T+some(r, 0, 3))
			frozen := gift.Freeze(s.Stream.Pos+some(r, 0, 3), s.Clock+some(r, -1, 2), h, s.Counts)
			f := anyFrame(r, s, frozen)
			want, n := told(p, s, f)
			got, no := take(t, s, f)
			if no != n || !same(got, want) || !past.Right(got.Past) {
				t.Fatalf("seed %d: %v of %v: %d, %v; not %d, %v", seed, f, s, no, got, n, want)
			}
			if s.Mode == joining && got.Mode == live {
				lives++
			}
			lates += got.Late - s.Late
			s = got
		}
	}
	if lives < 50 || edits < 500 || lates < 50 {
		t.Errorf("too little was walked: %d lives, %d edits, %d late ones", lives, edits, lates)
	}
}

// upstream is what a parent has: a stream of entries, of which the first ones are let go, and what it tells beside them.
type upstream struct {
	l             []api.Entry
	s, t          int
	boot, ack, to int
	clock         int
	num           [nodes]int
}

// grow lets the stream go on: an operation of another device, mostly.
func (u *upstream) grow(r *rand.Rand) {
	dev := some(r, 3, 4)
	if some(r, 0, 9) == 0 {
		u.l = append(u.l, evicted(dev, 9))
		return
	}
	u.clock++
	u.num[dev]++
	u.l = append(u.l, moved(by(u.clock, dev, 1, u.num[dev], at(some(r, 2, 8), 9, "n"))))
}

// frame is what the parent sends just now: entries from anywhere between its stable place and what 2 has.
func (u *upstream) frame(r *rand.Rand, has int) api.Frame {
	start := some(r, u.s, max(u.s, has)) + 1
	end := min(len(u.l), start-1+some(r, 0, 3))
	f := api.Frame{From: 1, To: 2, Boot: u.boot, First: 1, Ack: u.ack, Grant: u.to, S: u.s, T: u.t, Start: start}
	if end >= start {
		f.Entries = u.l[start-1 : end]
	}
	return f
}

// P18.3: frames of one parent that come again, right behind themselves or later, change nothing; those of an elder start are refused.
func TestAgain(t *testing.T) {
	for seed := range 12 {
		r := rand.New(rand.NewSource(int64(seed)))
		s, p := device.New(2), fleet()
		u := &upstream{boot: 1}
		var sent []api.Frame
		for range 80 {
			u.grow(r)
			if some(r, 0, 4) == 0 {
				s, _ = device.Edit(p, s, anyPlace(r))
			}
			if s.Clock > u.clock {
				u.clock = s.Clock
			}
			u.s, u.t = some(r, u.s, s.Stream.Pos), max(u.t, s.Past.T) // never beyond what 2 has
			u.ack, u.to = some(r, u.ack, u.ack+1), u.ack+some(r, 0, 4)
			u.boot += some(r, 0, 20) / 20
			f := u.frame(r, s.Stream.Pos)
			sent = append(sent, f)
			s, _ = device.Take(p, s, f)
			for _, f := range sent {
				want := api.OK
				if f.Boot < u.boot {
					want = api.ErrStale
				}
				if got, no := device.Take(p, s, f); no != want || !same(got, s) {
					t.Fatalf("seed %d: again %v: %d, %v; not %v", seed, f, no, got, s)
				}
			}
		}
		if s.Late != 0 || s.Stream.Pos < 30 {
			t.Errorf("seed %d: %v", seed, s)
		}
	}
}

// P18.3: chunks that come again, at whatever time until all are there and later, change nothing.
func TestAgainByChunks(t *testing.T) {
	for _, size := range []int{3, 11, 64} {
		l := chunks(snapshot(), size)
		s := waiting()
		for i, g := range l {
			s, _ = device.Take(fleet(), s, giving(g))
			for _, old := range l[:i+1] {
				if got, no := device.Take(fleet(), s, giving(old)); no != api.OK || !same(got, s) {
					t.Errorf("by %d, behind %d again %v: %d, %v", size, i, old, no, got)
				}
			}
		}
		if s.Mode != live {
			t.Errorf("by %d: mode %d", size, s.Mode)
		}
	}
}

// P18.3: what made it leave doesn't make it leave again.
func TestAgainLeft(t *testing.T) {
	let, gone := to2(), to2()
	let.S = 10
	gone.Entries = []api.Entry{evicted(2, 3)}
	for _, f := range []api.Frame{let, gone} {
		s, _ := device.Take(fleet(), there(), f)
		if s.Mode != joining || s.Inc != 4 {
			t.Errorf("%v: %v", f, s)
		}
		if got, no := device.Take(fleet(), s, f); no != api.OK || !same(got, s) {
			t.Errorf("%v again: %d, %v", f, no, got)
		}
	}
	none := giving(api.Gift{Dev: 2, Inc: 4})
	s, _ := device.Take(fleet(), waiting("ab"), none)
	if got, no := device.Take(fleet(), s, none); no != api.OK || s.Inc != 5 || !same(got, s) {
		t.Errorf("that there is none again: %d, %v", no, got)
	}
}
