package root_test

import (
	"math/rand"
	"slices"
	"testing"

	"bargeman/api"
	"bargeman/gift"
	"bargeman/move"
	"bargeman/root"
	"bargeman/stamp"
)

// some answers a number from least to most.
func some(r *rand.Rand, least, most int) int { return least + r.Intn(most-least+1) }

// deviceAt tells whether node is a device of the fleet, at or below the root's kid; written out by hand.
func deviceAt(node, kid int) bool {
	return slices.Contains(map[int][]int{1: {3, 5}, 2: {2}, 6: {6}}[kid], node)
}

// worded is Take as the chapter's words tell it, one behind the other.
func worded(p api.Plan, s api.State, f api.Frame) (api.State, []int, api.Errno) {
	kid := slices.Index([]int{1, 2, 6}, f.From)
	if f.To != 0 || kid < 0 {
		return s, nil, api.ErrArg
	}
	if f.Boot < s.Kids[kid].Boot {
		return s, nil, api.ErrStale
	}
	s.Kids, s.Members = slices.Clone(s.Kids), slices.Clone(s.Members)
	k := &s.Kids[kid]
	k.Boot = f.Boot
	if f.Pos > k.Pos {
		k.Pos = f.Pos
	}
	for i, o := range f.Ops {
		if f.First+i != k.Recv+1 || s.Stream.Pos-s.Stream.S >= 4*(p.Quota+2) {
			continue
		}
		k.Recv++
		m := memberOf(&s, o.At.Dev)
		if m == nil || !m.In || m.Inc != o.Inc || o.Num != m.N+1 {
			continue
		}
		if h, took := added(s.Past, o); took {
			s.Past = h
		} else {
			s.Late++
		}
		s = more(s, moved(o), api.Count{Dev: o.At.Dev, Inc: o.Inc, N: o.Num})
		m.N++
		m.Last = o.At.C
		s.Clock = max(s.Clock, o.At.C)
	}
	var heard []int
	for _, r := range f.Reports {
		if deviceAt(r.Dev, f.From) && wordedReport(&s, r) {
			heard = append(heard, r.Dev)
		}
	}
	return wordedAdvance(s), heard, api.OK
}

// memberOf is dev's among s's members; nil.
func memberOf(s *api.State, dev int) *api.Member {
	for i := range s.Members {
		if s.Members[i].Dev == dev {
			return &s.Members[i]
		}
	}
	return nil
}

// more is s with an entry more, and what it counts.
func more(s api.State, e api.Entry, l ...api.Count) api.State {
	s.Stream.Pos++
	s.Stream.Entries = append(slices.Clone(s.Stream.Entries), e)
	var table [8]*api.Count
	for i := range s.Counts {
		table[s.Counts[i].Dev] = &s.Counts[i]
	}
	for i := range l {
		table[l[i].Dev] = &l[i]
	}
	var all []api.Count
	for _, c := range table {
		if c != nil {
			all = append(all, *c)
		}
	}
	s.Counts = all
	return s
}

// newer tells whether a is newer than b, which is of the same life.
func newer(a, b api.Report) bool { return a.Boot > b.Boot || a.Boot == b.Boot && a.Beat > b.Beat }

// wordedReport puts a report into s, and tells whether one of the three applied.
func wordedReport(s *api.State, r api.Report) bool {
	m := memberOf(s, r.Dev)
	old := m.Report
	is := r.Inc > old.Inc || r.Inc == old.Inc && newer(r, old)
	if m.In && m.Inc == r.Inc && is && r.Mode == live {
		m.Report, m.Frozen = r, ""
		return true
	}
	if m.In && m.Inc == r.Inc && is && r.Mode == joining {
		old.Boot, old.Beat, old.Mode, old.Chunk = r.Boot, r.Beat, r.Mode, r.Chunk
		m.Report = old
		return true
	}
	if !m.In && m.Inc == r.Inc && is && r.Mode == joining {
		m.Report = r
		return true
	}
	has := slices.ContainsFunc(s.Past.Ops, func(o api.Op) bool { return o.At.Dev == r.Dev })
	if m.In || r.Inc <= m.Inc || r.Mode != joining || m.Out > s.Stream.S || has {
		return false
	}
	*s = more(*s, admitted(r.Dev, r.Inc), api.Count{Dev: r.Dev, Inc: r.Inc})
	m.In, m.Inc, m.N, m.Last = true, r.Inc, 0, s.Clock
	r.Mode, r.Pos, r.Clock, r.Sent = joining, s.Stream.Pos, s.Clock, 0
	m.Report = r
	m.Frozen = gift.Freeze(s.Stream.Pos, s.Clock, s.Past, s.Counts)
	return true
}

// wordedAdvance is s settled by minima that are found one by one.
func wordedAdvance(s api.State) api.State {
	place, counter := s.Stream.Pos, s.Clock
	for _, m := range s.Members {
		if !m.In {
			continue
		}
		place = min(place, m.Report.Pos)
		if m.Report.Sent == m.N {
			counter = min(counter, m.Report.Clock)
		} else {
			counter = min(counter, m.Last)
		}
	}
	for s.Stream.S < place {
		s.Stream.S++
		s.Stream.Entries = s.Stream.Entries[1:]
	}
	for _, e := range s.Stream.Entries {
		if e.Kind == 1 {
			counter = min(counter, e.Op.At.C-1)
		}
	}
	s.Past = settled(s.Past, counter)
	s.Stream.T = s.Past.T
	return s
}

// added is h with o, as the words tell it, all done anew from the base on.
func added(h api.Past, o api.Op) (api.Past, bool) {
	if o.At.C <= h.T || slices.ContainsFunc(h.Ops, func(x api.Op) bool { return x.At == o.At }) {
		return h, false
	}
	h.Ops = append(slices.Clone(h.Ops), o)
	slices.SortFunc(h.Ops, func(a, b api.Op) int {
		if stamp.Before(a.At, b.At) {
			return -1
		}
		return 1
	})
	h.Now, h.Undos = move.Fold(h.Base, h.Ops)
	return h, true
}

// settled is h with what has a counter up to t in its base, all done anew.
func settled(h api.Past, t int) api.Past {
	if t <= h.T {
		return h
	}
	h.T = t
	var old, new []api.Op
	for _, o := range h.Ops {
		if o.At.C <= t {
			old = append(old, o)
		} else {
			new = append(new, o)
		}
	}
	h.Base, _ = move.Fold(h.Base, old)
	h.Ops = new
	h.Now, h.Undos = move.Fold(h.Base, h.Ops)
	return h
}

// wordedEvict is Evict as the words tell it.
func wordedEvict(s api.State, dev int) (api.State, api.Errno) {
	s.Members = slices.Clone(s.Members)
	m := memberOf(&s, dev)
	if m == nil || !m.In {
		return s, api.ErrNone
	}
	s = more(s, evicted(dev, m.Inc))
	m.In, m.Out, m.Frozen = false, s.Stream.Pos, ""
	return wordedAdvance(s), api.OK
}

// wordedGifts is the gifts that s has, of all devices, by tables of members.
func wordedGifts(p api.Plan, s api.State) map[int]api.Gift {
	l := map[int]api.Gift{}
	for _, m := range s.Members {
		from := m.Report.Chunk * p.Chunk
		switch {
		case !m.In && m.Report.Mode == joining:
			l[m.Dev] = api.Gift{Dev: m.Dev, Inc: m.Report.Inc}
		case m.In && from < len(m.Frozen):
			rest := m.Frozen[from:]
			total := (len(m.Frozen) + p.Chunk - 1) / p.Chunk
			l[m.Dev] = api.Gift{Dev: m.Dev, Inc: m.Report.Inc, Chunk: m.Report.Chunk, Total: total, Data: rest[:min(len(rest), p.Chunk)]}
		}
	}
	return l
}

// anyOp is one that s may meet, of the life that goes on, mostly.
func anyOp(r *rand.Rand, s api.State) api.Op {
	m := s.Members[some(r, 0, 3)]
	o := api.Op{At: api.Stamp{C: max(1, s.Clock+some(r, -2, 3)), Dev: m.Dev}, Inc: m.Inc, Num: m.N + 1, Node: some(r, 2, 9), Name: string(rune('a' + some(r, 0, 2)))}
	if up := some(r, 0, 9); up != o.Node {
		o.Up = up
	}
	switch some(r, 0, 30) {
	case 0:
		o.Num = max(1, o.Num+some(r, -1, 1))
	case 1:
		o.Inc = max(1, o.Inc+some(r, -1, 1))
	case 2:
		o.At.C = max(1, s.Past.T+some(r, -1, 1))
	case 3:
		o.At.Dev = some(r, 0, 8)
	}
	return o
}

// anyReport is one that s may meet, of a device that has a little less than all, mostly.
func anyReport(r *rand.Rand, s api.State) api.Report {
	m := s.Members[some(r, 0, 3)]
	x := api.Report{Dev: m.Dev, Inc: m.Inc, Boot: m.Report.Boot, Beat: m.Report.Beat + some(r, 0, 2), Mode: live}
	x.Pos, x.Clock, x.Sent = max(0, s.Stream.Pos-some(r, 0, 3)), max(0, s.Clock-some(r, 0, 3)), max(0, m.N+some(r, 0, 3)/3)
	switch some(r, 0, 30) {
	case 0:
		x.Boot++
	case 1:
		x.Dev = some(r, 0, 8)
	case 2:
		x.Inc = max(1, x.Inc+some(r, -1, 1))
	case 3:
		x.Pos, x.Clock = s.Stream.Pos+3, s.Clock+3
	}
	if some(r, 0, 20) == 0 || !m.In || m.Frozen != "" && some(r, 0, 9) != 0 {
		x.Mode = joining
		x.Chunk = some(r, 0, 4)
		if !m.In {
			x.Inc += some(r, -1, 3) / 2
		}
	}
	return x
}

// anyFrame is one that s may meet.
func anyFrame(r *rand.Rand, s api.State) api.Frame {
	k := s.Kids[some(r, 0, 2)]
	f := api.Frame{From: k.Node, To: 0, Boot: k.Boot + some(r, 0, 20)/20, Pos: k.Pos + some(r, -1, 2), First: k.Recv + some(r, 1, 3)/2, Start: 1}
	next := s
	for range some(r, 0, 3) {
		o := anyOp(r, next)
		f.Ops = append(f.Ops, o)
		if m := memberOf(&next, o.At.Dev); m != nil && o.Num == m.N+1 { // so that the next one of it goes on
			next.Members = slices.Clone(next.Members)
			memberOf(&next, o.At.Dev).N++
		}
	}
	for range some(r, 0, 4) {
		f.Reports = append(f.Reports, anyReport(r, next))
	}
	switch some(r, 0, 40) {
	case 0:
		f.From = some(r, 0, 8)
	case 1:
		f.To = some(r, 0, 8)
	case 2:
		f.Boot--
	}
	return f
}

// checkGifts holds what s sends against the words.
func checkGifts(t *testing.T, p api.Plan, s api.State) {
	t.Helper()
	all := wordedGifts(p, s)
	for i, f := range root.Frames(p, s) {
		var want []api.Gift
		for dev := range 9 {
			if g, is := all[dev]; is && deviceAt(dev, s.Kids[i].Node) {
				want = append(want, g)
			}
		}
		if !slices.Equal(bare(f.Gifts), want) || f.S != s.Stream.S || f.T != s.Stream.T {
			t.Fatalf("%v; not %v", f, want)
		}
	}
}

// P20.1, P20.2, P20.3: long walks, each step as the words tell it; what is handed in stays, what is answered hangs on that alone, and the stable place and counter never fall.
func TestWalk(t *testing.T) {
	var ops, comes, goes, late, rose, told int
	for seed := range 40 {
		r := rand.New(rand.NewSource(int64(seed)))
		p := fleet()
		p.Quota, p.Chunk = some(r, 1, 3), some(r, 16, 40)
		s := root.New(p)
		for range 250 {
			var got, want api.State
			var heard, those []int
			var no, n api.Errno
			if some(r, 0, 15) == 0 {
				dev := some(r, 0, 7)
				got, no = evict(t, s, dev)
				want, n = wordedEvict(s, dev)
			} else {
				f := anyFrame(r, s)
				got, heard, no = take(t, p, s, f)
				want, those, n = worded(p, s, f)
			}
			if no != n || !same(got, want) || !slices.Equal(heard, those) {
				t.Fatalf("seed %d: of %v: %d, %v, %v; not %d, %v, %v", seed, s, no, heard, got, n, those, want)
			}
			if got.Stream.S < s.Stream.S || got.Stream.T < s.Stream.T || got.Stream.Pos < s.Stream.Pos || got.Past.T != got.Stream.T {
				t.Fatalf("seed %d: from %v to %v", seed, s.Stream, got.Stream)
			}
			checkGifts(t, p, got)
			for i, m := range got.Members {
				if m.In && m.Inc == s.Members[i].Inc {
					ops += m.N - s.Members[i].N
				}
			}
			late += got.Late - s.Late
			rose += got.Stream.S - s.Stream.S
			told += len(heard)
			for i, m := range got.Members {
				if m.In && !s.Members[i].In {
					comes++
				}
				if !m.In && s.Members[i].In {
					goes++
				}
			}
			s = got
		}
	}
	if ops < 2000 || comes < 100 || goes < 100 || late < 100 || rose < 2000 || told < 2000 {
		t.Errorf("too little was walked: %d operations, %d came, %d went, %d late, %d places, %d heard", ops, comes, goes, late, rose, told)
	}
}
