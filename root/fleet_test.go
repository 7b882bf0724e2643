package root_test

import (
	"math/rand"
	"reflect"
	"slices"
	"testing"

	"bargeman/api"
	"bargeman/device"
	"bargeman/frame"
	"bargeman/plan"
	"bargeman/relay"
	"bargeman/root"
)

// web is a whole fleet, but for its disks: each node's state and ticks, and the frames under way, by sender and receiver.
type web struct {
	t     *testing.T
	p     api.Plan
	nodes []api.State
	beats []int
	links map[[2]int][]api.Frame
	heard [9]int // how often each device was heard
	edits int    // how many were accepted
}

// newWeb is a fleet at its beginning.
func newWeb(t *testing.T) *web {
	w := &web{t: t, p: fleet(), links: map[[2]int][]api.Frame{}}
	w.p.Quota = 2
	for node := range w.p.Up {
		w.beats = append(w.beats, 0)
		switch plan.Kind(w.p, node) {
		case api.Root:
			w.nodes = append(w.nodes, root.New(w.p))
		case api.Relay:
			w.nodes = append(w.nodes, relay.New(w.p, node))
		default:
			w.nodes = append(w.nodes, device.New(node))
		}
	}
	return w
}

// tick lets a node send all that it has to tell.
func (w *web) tick(node int) {
	w.beats[node]++
	var l []api.Frame
	switch plan.Kind(w.p, node) {
	case api.Root:
		l = root.Frames(w.p, w.nodes[node])
	case api.Relay:
		l = relay.Frames(w.p, w.nodes[node])
	default:
		l = []api.Frame{device.Frame(w.p, w.nodes[node], w.beats[node])}
	}
	for _, f := range l {
		if !frame.Right(f) {
			w.t.Fatalf("it sends what may not be: %v", f)
		}
		w.send(f)
	}
}

// send puts f on its link, if there is room.
func (w *web) send(f api.Frame) {
	link := [2]int{f.From, f.To}
	if len(w.links[link]) < 4 {
		w.links[link] = append(w.links[link], f)
	}
}

// come takes the n-th frame off a link, and lets it come, or come and stay, or be lost.
func (w *web) come(link [2]int, n, what int) {
	l := w.links[link]
	if len(l) == 0 {
		return
	}
	f := l[n%len(l)]
	if what != 1 {
		w.links[link] = slices.Delete(slices.Clone(l), n%len(l), n%len(l)+1)
	}
	if what != 2 {
		w.take(f)
	}
}

// take lets f come to where it goes.
func (w *web) take(f api.Frame) {
	s := w.nodes[f.To]
	var no api.Errno
	switch plan.Kind(w.p, f.To) {
	case api.Root:
		var heard []int
		was := s
		s, heard, no = root.Take(w.p, s, f)
		for _, dev := range heard {
			w.heard[dev]++
		}
		w.check(was, s)
	case api.Relay:
		s, no = relay.Take(w.p, s, f)
	default:
		s, no = device.Take(w.p, s, f)
	}
	if no != api.OK && no != api.ErrStale {
		w.t.Fatalf("%v: %d", f, no)
	}
	if s.Late != 0 {
		w.t.Fatalf("%d came late to %d", s.Late, f.To)
	}
	w.nodes[f.To] = s
}

// check asks what must hold of each step of the root's.
func (w *web) check(was, s api.State) {
	w.t.Helper()
	if s.Stream.S < was.Stream.S || s.Stream.T < was.Stream.T || s.Past.T != s.Stream.T {
		w.t.Fatalf("from %v to %v", was.Stream, s.Stream)
	}
	if len(s.Stream.Entries) > plan.Window(w.p) {
		w.t.Fatalf("%d entries", len(s.Stream.Entries))
	}
	for _, m := range s.Members {
		d := w.nodes[m.Dev]
		if m.In && d.Mode == api.Live && d.Inc == m.Inc && (d.Stream.Pos < s.Stream.S || d.Past.T > s.Past.T) {
			w.t.Fatalf("let go %v, but %d has %v", s.Stream, m.Dev, d.Stream)
		}
	}
}

// evict evicts a device, as for its silence.
func (w *web) evict(dev int) {
	was := w.nodes[0]
	s, no := root.Evict(was, dev)
	if no != api.OK && no != api.ErrNone {
		w.t.Fatal(no)
	}
	w.nodes[0] = s
	w.check(was, s)
}

// edit lets a device edit something.
func (w *web) edit(r *rand.Rand, dev int) {
	s, no := device.Edit(w.p, w.nodes[dev], api.Place{Node: some(r, 2, 9), Up: some(r, 0, 9), Name: string(rune('a' + some(r, 0, 2)))})
	w.nodes[dev] = s
	if no == api.OK {
		w.edits++
	}
}

// step is anything that may happen.
func (w *web) step(r *rand.Rand) {
	node := some(r, 0, len(w.p.Up)-1)
	switch n := some(r, 0, 300); {
	case n == 0:
		w.evict([]int{2, 3, 5, 6}[some(r, 0, 3)])
	case n == 1:
		w.nodes[node].Boot++ // it was started once more, and has all that it had
		w.beats[node] = 0
	case n < 40:
		if plan.Kind(w.p, node) == api.Device {
			w.edit(r, node)
		}
	default:
		if some(r, 0, 2) == 0 {
			w.tick(node)
			return
		}
		up := w.p.Up[max(node, 1)]
		link := [2]int{up, max(node, 1)}
		if some(r, 0, 1) == 0 {
			link = [2]int{link[1], link[0]}
		}
		w.come(link, some(r, 0, 9), max(0, some(r, -4, 2)))
	}
}

// round is a fair one: all send, and a frame of each link comes.
func (w *web) round(r *rand.Rand) {
	for node := range w.p.Up {
		w.tick(node)
	}
	for node := 1; node < len(w.p.Up); node++ {
		w.come([2]int{node, w.p.Up[node]}, some(r, 0, 9), 0)
		w.come([2]int{w.p.Up[node], node}, some(r, 0, 9), 0)
	}
}

// rests tells whether nothing is under way: all devices are members, live, and nothing is kept beside the base.
func (w *web) rests() bool {
	top := w.nodes[0]
	for _, m := range top.Members {
		d := w.nodes[m.Dev]
		if !m.In || d.Mode != api.Live || m.Inc != d.Inc || m.Frozen != "" {
			return false
		}
	}
	for _, s := range w.nodes {
		if len(s.Queue.Ops) > 0 || len(s.Stream.Entries) > 0 || len(s.Past.Ops) > 0 || s.Stream.Pos != top.Stream.Pos || s.Stream.T != top.Stream.T {
			return false
		}
	}
	return true
}

// P20.1 to P20.3, P3, P4, P8: between devices and relays, with frames lost, doubled and in any order, evictions and starts: nothing comes late, nothing is let go too early, and fair rounds bring all to one tree.
func TestFleet(t *testing.T) {
	edits, evictions := 0, 0
	for seed := range 60 {
		r := rand.New(rand.NewSource(int64(seed)))
		w := newWeb(t)
		for range 3000 {
			w.step(r)
		}
		rounds := 0
		for ; !w.rests() && rounds < 1000; rounds++ {
			w.round(r)
		}
		if rounds == 1000 {
			t.Fatalf("seed %d: no rest: %v", seed, w.nodes[0])
		}
		for _, dev := range []int{2, 3, 5, 6} {
			evictions += w.nodes[dev].Inc - 1
			seen, is := device.Read(w.nodes[dev])
			if first, _ := device.Read(w.nodes[2]); !is || !reflect.DeepEqual(bare(seen), bare(first)) {
				t.Errorf("seed %d: %d shows %v; not %v", seed, dev, seen, first)
			}
			if !reflect.DeepEqual(bare(w.nodes[dev].Past.Now), bare(w.nodes[0].Past.Now)) || !slices.Equal(w.nodes[dev].Counts, w.nodes[0].Counts) {
				t.Errorf("seed %d: %d has %v, %v; the root %v, %v", seed, dev, w.nodes[dev].Past, w.nodes[dev].Counts, w.nodes[0].Past, w.nodes[0].Counts)
			}
			if w.heard[dev] == 0 {
				t.Errorf("seed %d: %d was never heard", seed, dev)
			}
		}
		edits += w.edits
	}
	if edits < 800 || evictions < 300 {
		t.Errorf("too little was done: %d edits, %d evictions", edits, evictions)
	}
}
