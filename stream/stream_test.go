package stream_test

import (
	"math"
	"math/rand"
	"slices"
	"testing"

	"bargeman/api"
	"bargeman/stream"
)

// The document's numbers, written out: the tests shall not follow one that is changed.
const (
	opKind      = 1
	evictKind   = 2
	admitKind   = 3
	mostCount   = 1 << 40
	mostEntries = 4096
	devices     = 12
)

// by is the entry of an operation of counter c, of dev.
func by(c, dev int) api.Entry {
	return api.Entry{Kind: opKind, Op: api.Op{At: api.Stamp{C: c, Dev: dev}, Inc: 1, Num: 1, Node: 5, Name: "a"}}
}

// evict is the entry by which dev's life inc is over.
func evict(dev, inc int) api.Entry { return api.Entry{Kind: evictKind, Dev: dev, Inc: inc} }

// admit is the entry by which dev's life inc begins.
func admit(dev, inc int) api.Entry { return api.Entry{Kind: admitKind, Dev: dev, Inc: inc} }

// at is the entry of the tests at a place from 1 on: each place has another one, of each kind by turns.
func at(place int) api.Entry {
	switch place % 3 {
	case 0:
		return by(place, place%devices)
	case 1:
		return evict(place%devices, place)
	}
	return admit(place%devices, place)
}

// row is the entries at the n places from first on.
func row(first, n int) []api.Entry {
	var l []api.Entry
	for i := range n {
		l = append(l, at(first+i))
	}
	return l
}

// stands is a stream of n entries behind s, with the stable counter t.
func stands(s, t, n int) api.Stream {
	return api.Stream{S: s, T: t, Pos: s + n, Entries: row(s+1, n)}
}

// streams is small ones that may be, at both ends of the places too.
func streams() []api.Stream {
	var l []api.Stream
	for n := range 6 {
		for _, s := range []int{0, 1, 2, 7, 1 << 31, mostCount - 9, mostCount - n} {
			for _, t := range []int{0, 1, 5, mostCount} {
				l = append(l, stands(s, t, n))
			}
		}
	}
	return l
}

// raws is such that may be, and many that may not: of any places, with few entries.
func raws() []api.Stream {
	var l []api.Stream
	for _, s := range edges() {
		for _, pos := range edges() {
			for n := range 3 {
				l = append(l, api.Stream{S: s, T: pos, Pos: pos, Entries: row(1, n)})
			}
		}
	}
	return l
}

// edges is numbers around all bounds, and around those at which a smaller kind of number would wrap.
func edges() []int {
	l := []int{math.MinInt, math.MinInt + 1, math.MaxInt - 1, math.MaxInt}
	for n := -3; n < 6; n++ {
		l = append(l, n)
	}
	for _, n := range []int{1 << 16, 1 << 31, 1 << 32, mostCount, 1 << 62} {
		l = append(l, n-1, n, n+1, n+2, -n-1, -n, -n+1)
	}
	return l
}

// equal is whether a and b are the same stream; an empty list is as good as none.
func equal(a, b api.Stream) bool {
	return a.S == b.S && a.T == b.T && a.Pos == b.Pos && slices.Equal(a.Entries, b.Entries)
}

// push is Push as the chapter's words tell it.
func push(s api.Stream, e api.Entry) api.Stream {
	var l []api.Entry
	l = append(l, s.Entries...)
	return api.Stream{S: s.S, T: s.T, Pos: s.Pos + 1, Entries: append(l, e)}
}

// take is Take as the chapter's words tell it: one by one.
func take(s api.Stream, start int, l []api.Entry) api.Stream {
	for i, e := range l {
		if start+i == s.Pos+1 {
			s = push(s, e)
		}
	}
	return s
}

// settle is Settle as the chapter's words tell it.
func settle(s api.Stream, place, t int) api.Stream {
	if t > s.T {
		s.T = t
	}
	if place <= s.S {
		return s
	}
	var left []api.Entry
	for i, e := range s.Entries {
		if s.S+1+i > place {
			left = append(left, e)
		}
	}
	if place >= s.Pos {
		s.Pos = place
	}
	return api.Stream{S: place, T: s.T, Pos: s.Pos, Entries: left}
}

// from is From as the chapter's words tell it.
func from(s api.Stream, place, most int) (int, []api.Entry) {
	if place < s.S {
		place = s.S
	}
	var l []api.Entry
	for i, e := range s.Entries {
		if s.S+1+i > place && len(l) < most {
			l = append(l, e)
		}
	}
	return place + 1, l
}

// lowest is Lowest as the chapter's words tell it.
func lowest(s api.Stream) int {
	var l []int
	for _, e := range s.Entries {
		if e.Kind == opKind {
			l = append(l, e.Op.At.C)
		}
	}
	if len(l) == 0 {
		return mostCount + 1
	}
	return slices.Min(l)
}

// P12.1: streams that may be.
func TestRight(t *testing.T) {
	l := append(streams(), api.Stream{}, api.Stream{Entries: []api.Entry{}}, stands(0, mostCount, mostEntries+1))
	l = append(l, api.Stream{S: mostCount, T: mostCount, Pos: mostCount}, stands(mostCount-1, 0, 1), stands(0, 9, 1), stands(9, 0, 1))
	for _, s := range l {
		if !stream.Right(s) {
			t.Errorf("%.200v may be", s)
		}
	}
}

// P12.1: places and counters outside, each alone and all.
func TestRightOfNumbers(t *testing.T) {
	in := func(n int) bool { return 0 <= n && n <= mostCount }
	for _, s := range edges() {
		for _, pos := range edges() {
			for _, counter := range edges() {
				for n := range 4 {
					x := api.Stream{S: s, T: counter, Pos: pos, Entries: row(1, n)}
					want := in(s) && in(pos) && in(counter) && s <= pos && pos-s == n
					if stream.Right(x) != want {
						t.Fatalf("Right(%v) isn't %v", x, want)
					}
				}
			}
		}
	}
}

// P12.1: as many entries as there are places, no more and no less.
func TestRightOfHowMany(t *testing.T) {
	for _, s := range streams() {
		for n := range 12 {
			x := s
			x.Entries = row(s.S+1, n)
			if stream.Right(x) != (n == s.Pos-s.S) {
				t.Fatalf("%d entries of %d to %d: %v", n, s.S, s.Pos, stream.Right(x))
			}
		}
	}
	// S above Pos, though there are none; and so far apart that a smaller kind of number says there are none.
	for _, x := range []api.Stream{{S: 1}, {S: mostCount, Pos: mostCount - 1}, {Pos: 1 << 8}, {Pos: 1 << 16}, {Pos: 1 << 32}, {S: 5, Pos: 5 + 1<<32}} {
		if stream.Right(x) {
			t.Errorf("%v may not be", x)
		}
	}
}

// P12.1: each entry may be, wherever it stands; which ones they are is of no account.
func TestRightOfEntries(t *testing.T) {
	wrong := []api.Entry{{}, {Kind: opKind}, {Kind: evictKind}, {Kind: 4, Dev: 1, Inc: 1}, evict(devices, 1), admit(0, 0), admit(1, mostCount+1), by(0, 1), by(mostCount+1, 1), by(1, devices)}
	good := []api.Entry{evict(devices-1, 1), admit(0, mostCount), by(1, 0), by(mostCount, devices-1), at(1), at(5)}
	for _, n := range []int{1, 2, 3, 5, 100} {
		for i := range n {
			s := stands(3, 1, n)
			for _, e := range wrong {
				s.Entries[i] = e
				if stream.Right(s) {
					t.Errorf("with %v as number %d of %d", e, i, n)
				}
			}
			for _, e := range good {
				s.Entries[i] = e
				if !stream.Right(s) {
					t.Errorf("not with %v as number %d of %d", e, i, n)
				}
			}
		}
	}
}

// P12.1: the chapter's examples.
func TestExamples(t *testing.T) {
	s := stands(0, 0, 3)
	if x := stream.Settle(s, 2, 0); !equal(x, api.Stream{S: 2, Pos: 3, Entries: row(3, 1)}) {
		t.Errorf("three entries, settled at 2: %v", x)
	}
	if x := stream.Settle(s, 9, 0); !equal(x, api.Stream{S: 9, Pos: 9}) {
		t.Errorf("three entries, settled at 9: %v", x)
	}
}

// P12.1: Push puts an entry, of any kind, at the place behind Pos.
func TestPush(t *testing.T) {
	if x := stream.Push(api.Stream{}, at(1)); !equal(x, api.Stream{Pos: 1, Entries: row(1, 1)}) {
		t.Errorf("the first one: %v", x)
	}
	if x := stream.Push(api.Stream{S: 4, T: 6, Pos: 5, Entries: row(5, 1)}, at(6)); !equal(x, api.Stream{S: 4, T: 6, Pos: 6, Entries: row(5, 2)}) {
		t.Errorf("one more: %v", x)
	}
	for _, s := range streams() {
		for _, e := range []api.Entry{at(s.Pos + 1), at(s.S + 1), evict(3, 2), admit(3, 2), by(8, 2), {}} {
			if got := stream.Push(s, e); !equal(got, push(s, e)) {
				t.Fatalf("Push(%v, %v) = %v", s, e, got)
			}
		}
	}
}

// P12.1: one entry behind the other, each at its place.
func TestPushInRow(t *testing.T) {
	s := api.Stream{S: 11, T: 3, Pos: 11}
	for n := range 300 {
		if !equal(s, stands(11, 3, n)) || !stream.Right(s) {
			t.Fatalf("with %d: %v", n, s)
		}
		s = stream.Push(s, at(12+n))
	}
}

// P12.1: Take, by hand: what goes on behind Pos is taken, what is there stays, and nothing comes behind a gap.
func TestTake(t *testing.T) {
	other := []api.Entry{evict(1, 77), evict(1, 78), evict(1, 79)}
	s := stands(2, 4, 2) // places 3 and 4
	with := func(l ...api.Entry) api.Stream {
		return api.Stream{S: 2, T: 4, Pos: 4 + len(l), Entries: append(row(3, 2), l...)}
	}
	for _, c := range []struct {
		what  string
		start int
		l     []api.Entry
		want  api.Stream
	}{
		{"none", 5, nil, s},
		{"behind Pos", 5, other, with(other...)},
		{"one behind Pos", 5, other[:1], with(other[0])},
		{"from Pos on", 4, other, with(other[1:]...)},
		{"from the one ahead of Pos on", 3, other, with(other[2])},
		{"up to Pos", 2, other, s},
		{"ahead of S", 1, other, s},
		{"from 0 on", 0, other, s},
		{"from below 0 on", -1, row(1, 7), with(row(1, 7)[6])},
		{"a gap", 6, other, s},
		{"a great gap", mostCount, other, s},
		{"from the least place on", math.MinInt, other, s},
		{"from the greatest place on", math.MaxInt - 2, other, s},
	} {
		if got := stream.Take(s, c.start, c.l); !equal(got, c.want) {
			t.Errorf("%s: %v, not %v", c.what, got, c.want)
		}
	}
}

// P12.1: Take of all small lists, from all places around.
func TestTakeOfSmallLists(t *testing.T) {
	for _, s := range streams() {
		for n := range 8 {
			l := make([]api.Entry, n)
			for i := range l {
				l[i] = admit(i, 500+i)
			}
			for start := s.S - 9; start <= s.Pos+3; start++ {
				if got := stream.Take(s, start, l); !equal(got, take(s, start, l)) {
					t.Fatalf("Take(%v, %d, %v) = %v", s, start, l, got)
				}
			}
			for _, start := range edges() {
				if start > math.MaxInt-n {
					continue
				}
				if got := stream.Take(s, start, l); !equal(got, take(s, start, l)) {
					t.Fatalf("Take(%v, %d, %v) = %v", s, start, l, got)
				}
			}
		}
	}
}

// P12.1: Take asks nothing of what is handed in but where it is; and a stream goes on behind MaxCount as elsewhere.
func TestTakeOfAny(t *testing.T) {
	l := []api.Entry{{}, {Kind: 9, Dev: -1}, at(1), at(1)}
	if got := stream.Take(stands(0, 0, 1), 2, l); !equal(got, api.Stream{Pos: 5, Entries: append(row(1, 1), l...)}) {
		t.Errorf("any entries: %v", got)
	}
	end := api.Stream{S: mostCount, Pos: mostCount}
	if got := stream.Take(end, mostCount, l); !equal(got, take(end, mostCount, l)) || got.Pos != mostCount+3 || stream.Right(got) {
		t.Errorf("behind MaxCount: %v", got)
	}
}

// P12.1: Settle, by hand: the counter and the place each by itself, and neither ever falls.
func TestSettle(t *testing.T) {
	s := stands(2, 4, 3) // places 3 to 5
	is := func(place, counter, pos int) api.Stream {
		return api.Stream{S: place, T: counter, Pos: pos, Entries: row(place+1, pos-place)}
	}
	for _, c := range []struct {
		place, counter int
		want           api.Stream
	}{
		{2, 4, s},
		{1, 3, s},
		{0, 0, s},
		{-1, -1, s},
		{math.MinInt, math.MinInt, s},
		{2, 5, is(2, 5, 5)},
		{1, 9, is(2, 9, 5)},
		{3, 4, is(3, 4, 5)},
		{3, 3, is(3, 4, 5)},
		{4, 0, is(4, 4, 5)},
		{4, 5, is(4, 5, 5)},
		{5, 4, is(5, 4, 5)},
		{6, 4, is(6, 4, 6)},
		{7, 8, is(7, 8, 7)},
		{mostCount, mostCount, is(mostCount, mostCount, mostCount)},
		{math.MaxInt, math.MaxInt, is(math.MaxInt, math.MaxInt, math.MaxInt)},
	} {
		if got := stream.Settle(s, c.place, c.counter); !equal(got, c.want) {
			t.Errorf("Settle at %d, %d: %v, not %v", c.place, c.counter, got, c.want)
		}
	}
}

// P12.1: Settle of small streams at all places and counters around.
func TestSettleAround(t *testing.T) {
	for _, s := range streams() {
		places, counters := edges(), append(edges(), s.T-1, s.T, s.T+1)
		for place := s.S - 3; place <= s.Pos+3; place++ {
			places = append(places, place)
		}
		for _, place := range places {
			for _, counter := range counters {
				if got := stream.Settle(s, place, counter); !equal(got, settle(s, place, counter)) {
					t.Fatalf("Settle(%v, %d, %d) = %v", s, place, counter, got)
				}
			}
		}
	}
}

// P12.1: what is settled in steps, in any order, is as if it were settled at the greatest at once; and it may be.
func TestSettleInSteps(t *testing.T) {
	draw := rand.New(rand.NewSource(12))
	for range 2000 {
		s := stands(draw.Intn(5), draw.Intn(5), draw.Intn(9))
		x, place, counter := s, s.S, s.T
		for range 1 + draw.Intn(4) {
			p, c := draw.Intn(16), draw.Intn(9)
			x = stream.Settle(x, p, c)
			place, counter = max(place, p), max(counter, c)
		}
		if !equal(x, settle(s, place, counter)) || !stream.Right(x) {
			t.Fatalf("%v, settled at %d, %d: %v", s, place, counter, x)
		}
	}
}

// P12.1: From, by hand.
func TestFrom(t *testing.T) {
	s := stands(2, 4, 3) // places 3 to 5
	for _, c := range []struct {
		place, most, at int
		want            []api.Entry
	}{
		{2, 3, 3, row(3, 3)},
		{2, 9, 3, row(3, 3)},
		{2, math.MaxInt, 3, row(3, 3)},
		{2, 2, 3, row(3, 2)},
		{2, 1, 3, row(3, 1)},
		{2, 0, 3, nil},
		{2, -1, 3, nil},
		{2, math.MinInt, 3, nil},
		{1, 2, 3, row(3, 2)},
		{0, 9, 3, row(3, 3)},
		{-7, 1, 3, row(3, 1)},
		{math.MinInt, 9, 3, row(3, 3)},
		{math.MinInt, 0, 3, nil},
		{3, 9, 4, row(4, 2)},
		{3, 1, 4, row(4, 1)},
		{4, 1, 5, row(5, 1)},
		{4, 2, 5, row(5, 1)},
		{5, 9, 6, nil},
		{6, 9, 7, nil},
		{mostCount, 9, mostCount + 1, nil},
		{math.MaxInt - 1, 9, math.MaxInt, nil},
		{math.MaxInt - 1, -9, math.MaxInt, nil},
	} {
		at, l := stream.From(s, c.place, c.most)
		if at != c.at || !slices.Equal(l, c.want) {
			t.Errorf("From of %d, %d: %d, %v, not %d, %v", c.place, c.most, at, l, c.at, c.want)
		}
	}
}

// P12.1: From of small streams, of all places around, and as many as there may be.
func TestFromAround(t *testing.T) {
	for _, s := range streams() {
		places := edges()
		for place := s.S - 3; place <= s.Pos+3; place++ {
			places = append(places, place)
		}
		for _, place := range places {
			for _, most := range edges() {
				if place == math.MaxInt {
					continue
				}
				at, l := stream.From(s, place, most)
				if wantAt, want := from(s, place, most); at != wantAt || !slices.Equal(l, want) {
					t.Fatalf("From(%v, %d, %d) = %d, %v", s, place, most, at, l)
				}
			}
		}
	}
}

// P12.1: Lowest, by hand: of the operations alone, wherever the least one stands.
func TestLowest(t *testing.T) {
	for _, c := range []struct {
		l    []api.Entry
		want int
	}{
		{nil, mostCount + 1},
		{[]api.Entry{evict(1, 1)}, mostCount + 1},
		{[]api.Entry{admit(0, 1), evict(0, 2)}, mostCount + 1},
		{[]api.Entry{by(1, 0)}, 1},
		{[]api.Entry{by(mostCount, 0)}, mostCount},
		{[]api.Entry{by(mostCount, 0), by(mostCount-1, 0)}, mostCount - 1},
		{[]api.Entry{by(7, 9), by(8, 1)}, 7},
		{[]api.Entry{by(8, 1), by(7, 9)}, 7},
		{[]api.Entry{by(7, 9), by(7, 1), by(9, 0)}, 7},
		{[]api.Entry{evict(1, 2), by(9, 3), admit(1, 3), by(6, 5), evict(3, 1), by(8, 0)}, 6},
		{[]api.Entry{by(1<<33, 3), by(1<<32+5, 3)}, 1<<32 + 5},
	} {
		for _, s := range []int{0, 5} {
			x := api.Stream{S: s, T: 3, Pos: s + len(c.l), Entries: c.l}
			if got := stream.Lowest(x); got != c.want {
				t.Errorf("Lowest of %v = %d, not %d", c.l, got, c.want)
			}
		}
	}
}

// P12.1: Lowest of all rows of up to five entries of few kinds.
func TestLowestOfSmallRows(t *testing.T) {
	kinds := []api.Entry{evict(1, 1), admit(2, 2), by(3, 3), by(4, 2), by(mostCount, 1)}
	rows := [][]api.Entry{nil}
	for i := 0; len(rows[i]) < 5; i++ {
		for _, e := range kinds {
			rows = append(rows, append(slices.Clone(rows[i]), e))
		}
	}
	for _, l := range rows {
		s := api.Stream{Pos: len(l), Entries: l}
		if got := stream.Lowest(s); got != lowest(s) {
			t.Fatalf("Lowest of %v = %d", l, got)
		}
	}
	for _, s := range streams() {
		if got := stream.Lowest(s); got != lowest(s) {
			t.Fatalf("Lowest(%v) = %d", s, got)
		}
	}
}

// P12.3: what follows on a place, piece by piece, makes any stream that stands there go on as the one that it is from.
func TestGoOn(t *testing.T) {
	for _, s := range streams() {
		for place := s.S; place <= s.Pos; place++ {
			for base := range 3 {
				for most := 1; most <= 4; most++ {
					b := stands(max(place-base, 0), 77, place-max(place-base, 0))
					goOn(t, s, b, most)
				}
			}
		}
	}
}

// goOn lets b, which stands at a place of s, go on by pieces of s, each of which comes twice.
func goOn(t *testing.T, s, b api.Stream, most int) {
	t.Helper()
	want := stands(b.S, b.T, s.Pos-b.S)
	for steps := 0; b.Pos < s.Pos; steps++ {
		start, l := stream.From(s, b.Pos, most)
		more := stream.Take(b, start, l)
		if more.Pos != b.Pos+min(most, s.Pos-b.Pos) || !equal(stream.Take(more, start, l), more) {
			t.Fatalf("%v goes on by %d, %v as %v", b, start, l, more)
		}
		b = more
	}
	if !equal(b, want) || !stream.Right(b) {
		t.Fatalf("%v behind %v, not %v", b, s, want)
	}
	if start, l := stream.From(s, b.Pos, most); len(l) > 0 || !equal(stream.Take(b, start, l), b) {
		t.Fatalf("%v goes on behind %v", b, s)
	}
}

// P12.3: one that stands ahead of the stable place takes nothing, till it is settled there.
func TestGoOnBehindStable(t *testing.T) {
	s := stands(6, 9, 3)
	for pos := range 6 {
		b := stands(0, 1, pos)
		start, l := stream.From(s, b.Pos, 9)
		if got := stream.Take(b, start, l); !equal(got, b) {
			t.Errorf("at %d, unsettled: %v", pos, got)
		}
		if got := stream.Take(stream.Settle(b, s.S, s.T), start, l); !equal(got, s) {
			t.Errorf("at %d, settled: %v", pos, got)
		}
	}
}

// piece is what one stream tells another one.
type piece struct {
	s, t, start int
	l           []api.Entry
}

// P12.3: pieces that are lost, doubled and late: each stream has at each place the entry that is there, and in the end all.
func TestGoOnByAnyPieces(t *testing.T) {
	draw := rand.New(rand.NewSource(3))
	for range 200 {
		var root, b api.Stream
		var under []piece
		for range 60 {
			switch draw.Intn(5) {
			case 0, 1:
				root = stream.Push(root, at(root.Pos+1))
			case 2:
				start, l := stream.From(root, draw.Intn(root.Pos+1), draw.Intn(4))
				under = append(under, piece{root.S, root.T, start, l})
			case 3:
				if len(under) > 0 {
					x := under[draw.Intn(len(under))]
					b = stream.Take(stream.Settle(b, x.s, x.t), x.start, x.l)
				}
			default:
				root = stream.Settle(root, draw.Intn(b.Pos+1), draw.Intn(9))
			}
			if !stream.Right(b) || b.S > root.S || b.Pos > root.Pos || !slices.Equal(b.Entries, row(b.S+1, b.Pos-b.S)) {
				t.Fatalf("%v below %v", b, root)
			}
		}
		start, l := stream.From(root, b.Pos, math.MaxInt)
		if b = stream.Take(stream.Settle(b, root.S, root.T), start, l); !equal(b, root) {
			t.Fatalf("%v in the end, not %v", b, root)
		}
	}
}

// P1: streams of which the calls aren't asked end without a panic, too.
func TestRaw(t *testing.T) {
	for _, s := range raws() {
		stream.Right(s)
		stream.Push(s, api.Entry{})
		stream.Lowest(s)
		stream.Print(s)
		for _, n := range edges() {
			stream.Settle(s, n, n)
			stream.Take(s, n, row(1, 2))
			stream.From(s, n, 1)
			stream.From(s, n, math.MaxInt)
		}
	}
}

// P1: a call ends soon, of very many entries, too.
func TestVeryMany(t *testing.T) {
	const n = 1 << 20
	l := make([]api.Entry, n)
	for i := range l {
		l[i] = evict(i%devices, i+1)
	}
	s := stream.Take(api.Stream{}, 1, l)
	if s.Pos != n || !slices.Equal(s.Entries, l) || !stream.Right(s) {
		t.Fatalf("%d taken", s.Pos)
	}
	s = stream.Take(s, 2, l)
	if s.Pos != n+1 || s.Entries[n] != l[n-1] {
		t.Fatalf("%d taken", s.Pos)
	}
	start, part := stream.From(s, n/2, 3)
	x := stream.Settle(s, n/2, 1)
	if start != n/2+1 || !slices.Equal(part, l[n/2:n/2+3]) || len(x.Entries) != n/2+1 || x.Entries[0] != part[0] {
		t.Errorf("%d, %v", start, part)
	}
}

// Rule 3: what is handed in stays as it was, its spare room too, and an answer is never changed by what is made of another one.
func TestMemory(t *testing.T) {
	mark := evict(1, 99999)
	for _, n := range []int{0, 1, 2, 5} {
		all := append(row(1, n), mark, mark, mark, mark)
		given := append(row(n+1, 3), mark, mark)
		was, givenWas := slices.Clone(all), slices.Clone(given)
		s := api.Stream{T: 1, Pos: n, Entries: all[:n]}
		calls := memoryCalls(s, given[:3])
		for i, call := range calls {
			got := call()
			if !slices.Equal(all, was) || !slices.Equal(given, givenWas) {
				t.Fatalf("call %d has changed what was handed in", i)
			}
			clear(got[:cap(got)])
			if !slices.Equal(all, was) || !slices.Equal(given, givenWas) {
				t.Fatalf("call %d shares its answer", i)
			}
		}
	}
}

// memoryCalls is calls by s and l whose answers have lists, and what these are.
func memoryCalls(s api.Stream, l []api.Entry) []func() []api.Entry {
	calls := []func() []api.Entry{func() []api.Entry { return stream.Push(s, at(s.Pos+1)).Entries }}
	for start := s.Pos - 4; start <= s.Pos+3; start++ {
		calls = append(calls, func() []api.Entry { return stream.Take(s, start, l).Entries })
	}
	for place := -1; place <= s.Pos+1; place++ {
		calls = append(calls, func() []api.Entry { return stream.Settle(s, place, 9).Entries })
		for most := -1; most <= s.Pos+1; most++ {
			calls = append(calls, func() []api.Entry {
				_, got := stream.From(s, place, most)
				return got
			})
		}
	}
	return calls
}

// Rule 3: an answer stays, whatever is made of it.
func TestAnswersStay(t *testing.T) {
	a := stream.Take(api.Stream{}, 1, row(1, 4))
	b, c := stream.Push(a, at(5)), stream.Push(a, evict(1, 55))
	d := stream.Settle(a, 2, 2)
	e, f := stream.Push(d, evict(1, 56)), stream.Push(d, at(5))
	_, l := stream.From(a, 1, 2)
	m := append(l, evict(1, 57), evict(1, 58))
	g := stream.Take(stream.Settle(a, 1, 1), 5, row(5, 2))
	for i, x := range []struct{ got, want []api.Entry }{
		{a.Entries, row(1, 4)},
		{b.Entries, row(1, 5)},
		{c.Entries, append(row(1, 4), evict(1, 55))},
		{d.Entries, row(3, 2)},
		{e.Entries, append(row(3, 2), evict(1, 56))},
		{f.Entries, row(3, 3)},
		{l, row(2, 2)},
		{m, append(row(2, 2), evict(1, 57), evict(1, 58))},
		{g.Entries, row(2, 5)},
	} {
		if !slices.Equal(x.got, x.want) {
			t.Errorf("%d has become %v", i, x.got)
		}
	}
}

// Rule 2: an empty list is as good as none.
func TestEmptyLists(t *testing.T) {
	for _, l := range [][]api.Entry{nil, {}} {
		s := api.Stream{S: 3, T: 2, Pos: 3, Entries: l}
		at, got := stream.From(s, 3, 5)
		if !stream.Right(s) || at != 4 || len(got) != 0 || stream.Lowest(s) != mostCount+1 || stream.Print(s) != "\x06\x04\x06" {
			t.Errorf("of %#v", l)
		}
		if !equal(stream.Take(stands(0, 1, 2), 3, l), stands(0, 1, 2)) || !equal(stream.Settle(s, 4, 1), api.Stream{S: 4, T: 2, Pos: 4}) {
			t.Errorf("with %#v", l)
		}
	}
}

// Rule 4: a call hangs on its arguments alone, not on what was asked ahead of it.
func TestAgain(t *testing.T) {
	l := streams()
	for i, s := range l {
		ask := func(s api.Stream) []api.Stream {
			start, part := stream.From(s, s.S+1, 2)
			return []api.Stream{
				stream.Push(s, at(1)), stream.Take(s, s.Pos, row(s.Pos, 3)), stream.Settle(s, s.S+1, 3),
				{S: start, T: stream.Lowest(s), Entries: part}, {T: len(stream.Print(s))},
			}
		}
		was, is := ask(s), stream.Right(s)
		ask(l[(i+1)%len(l)])
		if !slices.EqualFunc(ask(s), was, equal) || stream.Right(s) != is {
			t.Fatalf("%v: other answers", s)
		}
	}
}
