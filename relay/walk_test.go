package relay_test

import (
	"math/rand"
	"slices"
	"testing"

	"bargeman/api"
	"bargeman/relay"
)

// some answers a number from least to most.
func some(r *rand.Rand, least, most int) int { return least + r.Intn(most-least+1) }

// deviceAt tells whether node is a device of the fleet, at or below top; written out by hand.
func deviceAt(node, top int) bool {
	return slices.Contains(map[int][]int{1: {4, 5, 6, 8}, 2: {4}, 3: {5, 8}, 6: {6}}[top], node)
}

// told is Take of the relay 1 as the chapter's words tell it, one behind the other.
func told(p api.Plan, s api.State, f api.Frame) (api.State, api.Errno) {
	kid := slices.Index([]int{2, 3, 6}, f.From)
	switch {
	case f.To != 1 || f.From != 0 && kid < 0:
		return s, api.ErrArg
	case f.From == 0 && f.Boot < s.Above || f.From != 0 && f.Boot < s.Kids[kid].Boot:
		return s, api.ErrStale
	case f.From == 0:
		s = toldAbove(p, s, f)
	default:
		s = toldBelow(p, s, f, kid)
	}
	s.Gifts = slices.DeleteFunc(slices.Clone(s.Gifts), func(g api.Gift) bool {
		for _, r := range s.Reports {
			if r.Dev == g.Dev && (r.Inc > g.Inc || r.Inc == g.Inc && (r.Mode == live || g.Total != 0 && r.Chunk > g.Chunk)) {
				return true
			}
		}
		return false
	})
	return s, api.OK
}

// toldAbove is s behind a frame of the parent, by tables of numbers.
func toldAbove(p api.Plan, s api.State, f api.Frame) api.State {
	s.Above = f.Boot
	s.Queue.Grant = max(s.Queue.Grant, f.Grant)
	for len(s.Queue.Ops) > 0 && s.Queue.First <= f.Ack {
		s.Queue.First++
		s.Queue.Ops = s.Queue.Ops[1:]
	}
	at := map[int]api.Entry{}
	for i, e := range s.Stream.Entries {
		at[s.Stream.S+1+i] = e
	}
	s.Stream.S = max(s.Stream.S, f.S)
	s.Stream.T = max(s.Stream.T, f.T)
	s.Stream.Pos = max(s.Stream.Pos, f.S)
	for i, e := range f.Entries {
		if f.Start+i == s.Stream.Pos+1 && s.Stream.Pos-s.Stream.S < 5*(p.Quota+2) {
			s.Stream.Pos++
			at[s.Stream.Pos] = e
		}
	}
	s.Stream.Entries = nil
	for place := s.Stream.S + 1; place <= s.Stream.Pos; place++ {
		s.Stream.Entries = append(s.Stream.Entries, at[place])
	}
	for _, g := range f.Gifts {
		if deviceAt(g.Dev, 1) {
			s.Gifts = merged(s.Gifts, g, func(x api.Gift) int { return x.Dev }, func(a, b api.Gift) bool {
				return a.Inc > b.Inc || a.Inc == b.Inc && (a.Total == 0 || b.Total != 0 && a.Chunk >= b.Chunk)
			})
		}
	}
	return s
}

// toldBelow is s behind a frame of a kid.
func toldBelow(p api.Plan, s api.State, f api.Frame, kid int) api.State {
	s.Kids = slices.Clone(s.Kids)
	k := &s.Kids[kid]
	k.Boot = f.Boot
	if f.Pos > k.Pos {
		k.Pos = f.Pos
	}
	for i, o := range f.Ops {
		if f.First+i == k.Recv+1 && len(s.Queue.Ops) < p.Room {
			s.Queue.Ops = append(slices.Clone(s.Queue.Ops), o)
			k.Recv++
		}
	}
	for _, r := range f.Reports {
		if deviceAt(r.Dev, k.Node) {
			s.Reports = merged(s.Reports, r, func(x api.Report) int { return x.Dev }, func(a, b api.Report) bool {
				return a.Inc > b.Inc || a.Inc == b.Inc && (a.Boot > b.Boot || a.Boot == b.Boot && a.Beat > b.Beat)
			})
		}
	}
	return s
}

// merged is l, of rising devices, with x, by a table of devices.
func merged[T any](l []T, x T, dev func(T) int, newer func(a, b T) bool) []T {
	var table [9]*T
	for i := range l {
		table[dev(l[i])] = &l[i]
	}
	if was := table[dev(x)]; was == nil || newer(x, *was) {
		table[dev(x)] = &x
	}
	var all []T
	for _, y := range table {
		if y != nil {
			all = append(all, *y)
		}
	}
	return all
}

// anyAbove is a frame of the parent that s may meet; lives go on with age.
func anyAbove(r *rand.Rand, s api.State, age int) api.Frame {
	f := api.Frame{From: 0, To: 1, Boot: s.Above + some(r, 0, 20)/20, First: 1}
	f.Ack, f.Grant = s.Queue.First+some(r, -2, 2), s.Queue.First+some(r, -2, 4)
	f.S, f.T = s.Stream.S+some(r, -2, 2), s.Stream.T+some(r, -2, 2)
	if some(r, 0, 20) == 0 {
		f.S = s.Stream.Pos + some(r, 0, 3)
	}
	f.Start = s.Stream.Pos + some(r, -2, 2)
	if some(r, 0, 2) != 0 {
		f.Start = s.Stream.Pos + 1
	}
	f.Entries = entries(f.Start, some(r, 0, 8))
	for range some(r, 0, 3) {
		total := some(r, 0, 4)
		f.Gifts = append(f.Gifts, api.Gift{Dev: some(r, 0, 9), Inc: age + some(r, 1, 3), Chunk: some(r, 0, 3), Total: total, Data: string(rune('a' + some(r, 0, 9)))})
	}
	return f
}

// anyBelow is a frame of a kid that s may meet; lives go on with age.
func anyBelow(r *rand.Rand, s api.State, age int) api.Frame {
	k := s.Kids[some(r, 0, 2)]
	f := api.Frame{From: k.Node, To: 1, Boot: k.Boot + some(r, 0, 20)/20, Pos: k.Pos + some(r, -2, 2), Start: 1}
	f.First = k.Recv + some(r, -2, 2)
	f.Ops = ops(k.Node, f.First, some(r, 0, 4))
	for range some(r, 0, 2) {
		f.Reports = append(f.Reports, api.Report{Dev: some(r, 0, 9), Inc: age + some(r, 1, 3), Boot: some(r, 1, 2), Beat: some(r, 1, 9), Mode: some(r, live, joining), Chunk: some(r, 0, 3)})
	}
	return f
}

// P19.1, P19.2: long walks, each step as the words tell it; what is handed in stays, and what is answered hangs on that alone.
func TestWalk(t *testing.T) {
	var taken, gone, full int
	for seed := range 40 {
		r := rand.New(rand.NewSource(int64(seed)))
		p := fleet()
		p.Quota, p.Room = some(r, 1, 3), some(r, 1, 6)
		s := relay.New(p, 1)
		for step := range 200 {
			f := anyAbove(r, s, step/10)
			if some(r, 0, 1) == 0 {
				f = anyBelow(r, s, step/10)
			}
			switch some(r, 0, 40) {
			case 0:
				f.From = some(r, 0, 8)
			case 1:
				f.To = some(r, 0, 8)
			case 2:
				f.Boot--
			}
			want, n := told(p, s, f)
			got, no := take(t, p, s, f)
			if no != n || !same(got, want) {
				t.Fatalf("seed %d: %v of %v: %d, %v; not %d, %v", seed, f, s, no, got, n, want)
			}
			if len(got.Queue.Ops) > p.Room || len(got.Stream.Entries) > 5*(p.Quota+2) {
				t.Fatalf("seed %d: too much: %v", seed, got)
			}
			taken += got.Kids[0].Recv - s.Kids[0].Recv
			gone += max(0, len(s.Gifts)-len(got.Gifts))
			if len(got.Queue.Ops) == p.Room {
				full++
			}
			s = got
		}
	}
	if taken < 200 || gone < 200 || full < 200 {
		t.Errorf("too little was walked: %d taken, %d gifts gone, %d times full", taken, gone, full)
	}
}

// source is a device that has operations on their way: as many were acknowledged, up to the grant they may go.
type source struct {
	ops        []api.Op
	ack, grant int
}

// web is the relays of the fleet, between devices and a root, and all frames that were ever sent.
type web struct {
	p       api.Plan
	relays  map[int]api.State
	devices map[int]*source
	recv    int           // how many operations the root took
	rose    map[int][]int // by devices: the numbers of those, in order
	sent    []api.Frame
}

// newWeb is a fleet at its beginning.
func newWeb() *web {
	w := &web{p: fleet(), relays: map[int]api.State{}, devices: map[int]*source{}, rose: map[int][]int{}}
	for _, node := range []int{1, 2, 3} {
		w.relays[node] = relay.New(w.p, node)
	}
	for _, node := range []int{4, 5, 6, 8} {
		w.devices[node] = &source{}
	}
	return w
}

// send lets a node send what it may.
func (w *web) send(r *rand.Rand, node int) {
	if s, is := w.relays[node]; is {
		w.sent = append(w.sent, relay.Frames(w.p, s)...)
		return
	}
	if node == 0 {
		w.sent = append(w.sent, api.Frame{From: 0, To: 1, First: 1, Ack: w.recv, Grant: w.recv + some(r, 0, 3), Start: 1})
		return
	}
	d := w.devices[node]
	if some(r, 0, 1) == 0 {
		d.ops = append(d.ops, by(len(d.ops)+1, node, len(d.ops)+1))
	}
	first, last := some(r, 1, d.ack+1), min(d.grant, len(d.ops))
	f := api.Frame{From: node, To: w.p.Up[node], First: first, Start: 1}
	if last >= first {
		f.Ops = d.ops[first-1 : last]
	}
	w.sent = append(w.sent, f)
}

// come lets a frame come, wherever it goes.
func (w *web) come(t *testing.T, f api.Frame) {
	t.Helper()
	if s, is := w.relays[f.To]; is {
		s, no := relay.Take(w.p, s, f)
		if no != api.OK || len(s.Queue.Ops) > w.p.Room {
			t.Fatalf("%v: %d, %v", f, no, s)
		}
		w.relays[f.To] = s
		return
	}
	if d, is := w.devices[f.To]; is {
		if f.Ack > len(d.ops) {
			t.Fatalf("%d was taken of %d", f.Ack, len(d.ops))
		}
		d.ack, d.grant = max(d.ack, f.Ack), max(d.grant, f.Grant)
		return
	}
	for i, o := range f.Ops {
		if f.First+i == w.recv+1 {
			w.recv++
			w.rose[o.At.Dev] = append(w.rose[o.At.Dev], o.Num)
		}
	}
}

// P19.3, P7: frames may be lost, doubled, and come in any order: each kid's operations go up in their order, each once.
func TestRise(t *testing.T) {
	for seed := range 20 {
		r := rand.New(rand.NewSource(int64(seed)))
		w := newWeb()
		w.p.Room = some(r, 1, 5)
		for range 3000 {
			w.send(r, []int{0, 1, 2, 3, 4, 5, 6, 8}[some(r, 0, 7)])
			for range some(r, 0, 2) {
				w.come(t, w.sent[some(r, max(0, len(w.sent)-40), len(w.sent)-1)])
			}
		}
		for node := range w.devices {
			for i, num := range w.rose[node] {
				if num != i+1 {
					t.Fatalf("seed %d: of %d, the one at %d is %d", seed, node, i, num)
				}
			}
			if len(w.rose[node]) < 5 {
				t.Errorf("seed %d: of %d there came %d", seed, node, len(w.rose[node]))
			}
		}
	}
}
