package gift_test

import (
	"encoding/binary"
	"math"
	"math/rand"
	"slices"
	"strings"
	"testing"

	"bargeman/api"
	"bargeman/code"
	"bargeman/gift"
	"bargeman/move"
	"bargeman/past"
)

// nums is the numbers' bytes, one behind the other.
func nums(l ...int) string {
	var b []byte
	for _, n := range l {
		b = binary.AppendVarint(b, int64(n))
	}
	return string(b)
}

// countBytes is counts', as the document tells them, whatever they are.
func countBytes(l []api.Count) string {
	var b strings.Builder
	b.WriteString(nums(len(l)))
	for _, c := range l {
		b.WriteString(nums(c.Dev, c.Inc, c.N))
	}
	return b.String()
}

// pastBytes is a past's, as the document tells them, whatever it is.
func pastBytes(p api.Past) string {
	var b strings.Builder
	b.WriteString(nums(len(p.Base)))
	for _, x := range p.Base {
		b.WriteString(nums(x.Node, x.Up, len(x.Name)) + x.Name)
	}
	b.WriteString(nums(p.T, len(p.Ops)))
	for _, o := range p.Ops {
		b.WriteString(nums(o.At.C, o.At.Dev, o.Inc, o.Num, o.Node, o.Up, len(o.Name)) + o.Name)
	}
	return b.String()
}

// bytes is a snapshot's, as the document tells them, whatever it has.
func bytes(pos, clock int, p api.Past, l []api.Count) string {
	return nums(pos, clock) + pastBytes(p) + countBytes(l)
}

// to is a move of node to below up, at a moment.
func to(c, dev, node, up int) api.Op {
	return api.Op{At: api.Stamp{C: c, Dev: dev}, Inc: 2, Num: c, Node: node, Up: up, Name: "abcdefghijklmnop"[:1+c%16]}
}

// pastOf is a past of a base, with operations behind t.
func pastOf(base []api.Place, t int, l ...api.Op) api.Past {
	now, undos := move.Fold(base, l)
	return api.Past{Base: base, T: t, Ops: l, Undos: undos, Now: now}
}

// many is a past of n operations.
func many(n int) api.Past {
	var l []api.Op
	for c := range n {
		l = append(l, to(c+1, c%nodes, 2+c%7, 2+(c+1)%7))
	}
	return pastOf(nil, 0, l...)
}

// pasts is such that may be: of all sizes, at both ends of the counters; in some a move does nothing.
func pasts() []api.Past {
	base := []api.Place{{Node: 2, Up: 0, Name: "a"}, {Node: 3, Up: 2, Name: "b"}, {Node: 63, Up: 1, Name: "0123456789abcdef"}}
	var full []api.Place
	for node := 2; node < 64; node++ {
		full = append(full, api.Place{Node: node, Up: node / 2, Name: "x"})
	}
	return []api.Past{
		{}, {T: 3}, {T: mostCount}, pastOf(base, 0), pastOf(full, mostCount),
		pastOf(nil, 0, to(1, 0, 2, 0)),
		pastOf(base, 5, to(6, 1, 2, 3), to(6, 2, 3, 0), to(7, 1, 2, 3), to(64, 11, 5, 9)),
		pastOf(full, mostCount-2, to(mostCount-1, 3, 9, 40), to(mostCount, 0, 40, 2), to(mostCount, 11, 40, 9)),
		many(50),
	}
}

// nonPasts is such that may not be, each by one thing alone.
func nonPasts() []api.Past {
	return []api.Past{
		{T: -1}, {T: mostCount + 1}, {T: math.MaxInt}, {T: math.MinInt},
		{Base: []api.Place{{Node: 1, Name: "a"}}},
		{Base: []api.Place{{Node: 2, Up: 3, Name: "a"}, {Node: 3, Up: 2, Name: "b"}}},
		{Base: []api.Place{{Node: 3, Name: "a"}, {Node: 2, Name: "b"}}},
		{Base: []api.Place{{Node: 2, Name: "a/b"}}},
		{T: 6, Ops: []api.Op{to(6, 1, 2, 3)}},
		{Ops: []api.Op{to(6, 1, 2, 3), to(6, 1, 3, 2)}},
		{Ops: []api.Op{to(7, 1, 2, 3), to(6, 1, 3, 2)}},
		{Ops: []api.Op{to(6, 1, 2, 2)}},
		{Ops: []api.Op{to(6, 12, 2, 3)}},
	}
}

// count is dev's, other numbers for each.
func count(dev int) api.Count { return api.Count{Dev: dev, Inc: 21 + dev, N: 300 + dev} }

// countsOf is the counts of devs.
func countsOf(devs ...int) []api.Count {
	var l []api.Count
	for _, dev := range devs {
		l = append(l, count(dev))
	}
	return l
}

// counts is such that may be: of all lengths, and at each place at the ends of the numbers, that have no end above.
func counts() [][]api.Count {
	l := [][]api.Count{nil, {}, {{Dev: 0, Inc: 1}}, {{Dev: 11, Inc: math.MaxInt, N: math.MaxInt}}}
	for n := range nodes + 1 {
		l = append(l, countsOf([]int{0, 1, 2, 3, 4, 5, 6, 7, 8, 9, 10, 11}[:n]...), countsOf([]int{0, 1, 2, 3, 4, 5, 6, 7, 8, 9, 10, 11}[nodes-n:]...))
	}
	for i := range 3 {
		for _, n := range edges() {
			if n >= 1 {
				l = append(l, countsOf(1, 4, 10))
				l[len(l)-1][i].Inc = n
			}
			if n >= 0 {
				l = append(l, countsOf(1, 4, 10))
				l[len(l)-1][i].N = n
			}
		}
	}
	return l
}

// nonCounts is such that may not be, each by one thing alone.
func nonCounts() [][]api.Count {
	l := [][]api.Count{
		{{}}, {{Dev: 1}}, countsOf(1, 1), countsOf(2, 1), countsOf(11, 0), countsOf(1, 2, 2), countsOf(1, 1, 2), countsOf(2, 1, 3), countsOf(1, 3, 2), countsOf(-1), countsOf(-1, 0), countsOf(12), countsOf(10, 11, 12),
		countsOf(0, 1, 2, 3, 4, 5, 6, 7, 8, 9, 10, 11, 11), countsOf(0, 1, 2, 3, 4, 5, 6, 7, 8, 9, 10, 11, 12), countsOf(-1, 0, 1, 2, 3, 4, 5, 6, 7, 8, 9, 10, 11),
	}
	for i := range 3 {
		for _, n := range edges() {
			if n < 0 || n > 11 {
				l = append(l, countsOf(1, 4, 10))
				l[len(l)-1][i].Dev = n
			}
			if n < 1 {
				l = append(l, countsOf(1, 4, 10))
				l[len(l)-1][i].Inc = n
			}
			if n < 0 {
				l = append(l, countsOf(1, 4, 10))
				l[len(l)-1][i].N = n
			}
		}
	}
	return l
}

// rightCounts is whether counts may be, as the chapter's words tell it.
func rightCounts(l []api.Count) bool {
	if len(l) > nodes {
		return false
	}
	for i, c := range l {
		if c.Dev < 0 || c.Dev >= nodes || c.Inc < 1 || c.N < 0 || i > 0 && l[i-1].Dev >= c.Dev {
			return false
		}
	}
	return true
}

// equal tells whether a and b, that Thaw answered, are the same; a list that holds nothing may be nil or empty.
func equal(a, b api.State) bool {
	rest := func(s api.State) bool {
		return s.Node == 0 && s.Boot == 0 && s.Above == 0 && s.Inc == 0 && s.Mode == 0 && s.Sent == 0 && s.Late == 0 && s.Queue.First == 0 && s.Queue.Grant == 0 &&
			len(s.Stream.Entries)+len(s.Queue.Ops)+len(s.Kids)+len(s.Reports)+len(s.Gifts)+len(s.Members)+len(s.Parts) == 0
	}
	p, q := a.Past, b.Past
	return rest(a) && rest(b) && a.Clock == b.Clock && a.Stream.S == b.Stream.S && a.Stream.T == b.Stream.T && a.Stream.Pos == b.Stream.Pos &&
		p.T == q.T && slices.Equal(p.Base, q.Base) && slices.Equal(p.Ops, q.Ops) && slices.Equal(p.Undos, q.Undos) && slices.Equal(p.Now, q.Now) && slices.Equal(a.Counts, b.Counts)
}

// state is what the words tell of a snapshot's parts.
func state(pos, clock int, p api.Past, l []api.Count) api.State {
	return api.State{Stream: api.Stream{S: pos, T: p.T, Pos: pos}, Clock: clock, Past: p, Counts: l}
}

// noCounts wants that ReadCounts finds no counts at the beginning of s, with other bytes ahead, too.
func noCounts(t *testing.T, what, s string) {
	t.Helper()
	for _, ahead := range []string{"", "\x80", countBytes(countsOf(3))} {
		r := &code.Reader{S: ahead + s, At: len(ahead)}
		if l := gift.ReadCounts(r); len(l) > 0 || !r.Bad || r.Done() || r.S != ahead+s {
			t.Fatalf("%s: ReadCounts of %.80q behind %q = %v, Bad %v", what, s, ahead, l, r.Bad)
		}
	}
}

// noSnapshot wants that s is no snapshot.
func noSnapshot(t *testing.T, what, s string) {
	t.Helper()
	if x, is := gift.Thaw(s); is || !equal(x, api.State{}) {
		t.Fatalf("%s: Thaw of %.80q = %v, %v", what, s, x, is)
	}
}

// P17.1: snapshots whose bytes are known; each part has a place of its own.
func TestFreezeOfKnown(t *testing.T) {
	base := []api.Place{{Node: 5, Up: 3, Name: "b"}}
	o := api.Op{At: api.Stamp{C: 3, Dev: 1}, Inc: 1, Num: 2, Node: 5, Name: "a"}
	for _, c := range []struct {
		pos, clock int
		p          api.Past
		l          []api.Count
		want       string
	}{
		{0, 0, api.Past{}, nil, "\x00\x00\x00\x00\x00\x00"},
		{0, 0, api.Past{Base: []api.Place{}, Ops: []api.Op{}}, []api.Count{}, "\x00\x00\x00\x00\x00\x00"},
		{7, 9, api.Past{T: 3}, []api.Count{{Dev: 1, Inc: 1, N: 2}}, "\x0e\x12\x00\x06\x00\x02\x02\x02\x04"},
		{128, 64, pastOf(base, 2, o), []api.Count{{Dev: 3, Inc: 4, N: 5}, {Dev: 6, Inc: 7, N: 8}}, "\x80\x02\x80\x01\x02\x0a\x06\x02b\x04\x02\x06\x02\x02\x04\x0a\x00\x02a\x04\x06\x08\x0a\x0c\x0e\x10"},
		{-1, -2, api.Past{T: -3}, []api.Count{{Dev: -4, Inc: -5, N: -6}}, "\x01\x03\x00\x05\x00\x02\x07\x09\x0b"},
	} {
		if got := gift.Freeze(c.pos, c.clock, c.p, c.l); got != c.want {
			t.Errorf("Freeze(%d, %d, %v, %v) = % x, not % x", c.pos, c.clock, c.p, c.l, got, c.want)
		}
	}
}

// P17.1: Freeze of any, be they such that may be or not.
func TestFreeze(t *testing.T) {
	lists := slices.Concat(counts(), nonCounts(), [][]api.Count{make([]api.Count, 3000)})
	all := slices.Concat(pasts(), nonPasts(), []api.Past{many(mostOps + 100)})
	ends := edges()
	for i, l := range lists {
		for j, p := range all {
			if len(p.Ops) > mostOps && i%50 > 0 {
				continue
			}
			pos, clock := ends[(i+j)%len(ends)], ends[(i*3+j*7)%len(ends)]
			if got := gift.Freeze(pos, clock, p, l); got != bytes(pos, clock, p, l) {
				t.Fatalf("Freeze(%d, %d, %v, %v) = %.100q", pos, clock, p, l, got)
			}
		}
	}
}

// P17.1: ReadCounts reads counts wherever they stand, goes on behind them, and leaves the rest.
func TestReadCounts(t *testing.T) {
	for _, l := range counts() {
		text := countBytes(l)
		for _, ahead := range []string{"", "\x80", "ahead"} {
			for _, behind := range []string{"", "\x00", "\xff", nums(11, 1, 0)} {
				r := &code.Reader{S: ahead + text + behind, At: len(ahead)}
				got := gift.ReadCounts(r)
				if !slices.Equal(got, l) || r.Bad || r.At != len(ahead)+len(text) || r.Done() != (behind == "") || r.S != ahead+text+behind {
					t.Fatalf("ReadCounts of %v between %q and %q = %v, %#v", l, ahead, behind, got, *r)
				}
			}
		}
	}
}

// P17.1: counts in one row, with other things between, are read in their order; each one's memory is its own.
func TestReadCountsInRow(t *testing.T) {
	all := counts()
	var text strings.Builder
	for i, l := range all {
		text.WriteString(countBytes(l) + nums(i))
	}
	r := &code.Reader{S: text.String()}
	var before []api.Count
	for i, l := range all {
		got, n := gift.ReadCounts(r), r.Num()
		clear(before[:cap(before)])
		if !slices.Equal(got, l) || n != i {
			t.Fatalf("thing %d: %v, %d, not %v", i, got, n, l)
		}
		before = got
	}
	if !r.Done() {
		t.Errorf("At %d of %d, Bad %v", r.At, len(r.S), r.Bad)
	}
	if got := gift.ReadCounts(r); len(got) > 0 || !r.Bad {
		t.Errorf("behind the end: %v", got)
	}
}

// P17.1: counts that may not be, though their bytes are whole.
func TestReadCountsOfWrong(t *testing.T) {
	l := nonCounts()
	for _, x := range l {
		noCounts(t, "wrong counts", countBytes(x))
		noCounts(t, "wrong counts", countBytes(x)+nums(1, 1, 1))
	}
	if len(l) < 3*50 {
		t.Errorf("only %d", len(l))
	}
}

// P17.1: all lists of up to three Devs around the bounds: they rise, or are none.
func TestReadCountsOfDevs(t *testing.T) {
	all := [][]api.Count{nil}
	may := 0
	for i := 0; i < len(all); i++ {
		r := &code.Reader{S: countBytes(all[i])}
		got := gift.ReadCounts(r)
		if want := rightCounts(all[i]); r.Done() != want || want && !slices.Equal(got, all[i]) || !want && len(got) > 0 {
			t.Fatalf("ReadCounts of %v = %v", all[i], got)
		}
		if r.Done() {
			may++
		}
		for _, dev := range []int{-1, 0, 1, 5, 10, 11, 12} {
			if len(all[i]) < 3 {
				all = append(all, append(slices.Clone(all[i]), count(dev)))
			}
		}
	}
	if may != 1+5+10+10 || len(all) != 1+7+49+343 {
		t.Errorf("%d of %d may be", may, len(all))
	}
}

// P17.1: how many counts there are is a number from 0 to 12, and there are so many.
func TestReadCountsOfWrongHowMany(t *testing.T) {
	for there := range nodes + 3 {
		var text string
		for dev := range there {
			text += nums(dev, 1+dev, 2*dev)
		}
		for _, n := range append(edges(), 1<<32+1, 1<<32+12) {
			s := nums(n) + text
			if n < 0 || n > nodes || n > there {
				noCounts(t, "a wrong number of counts", s)
				continue
			}
			r := &code.Reader{S: s}
			got := gift.ReadCounts(r)
			if r.Bad || len(got) != n || countBytes(got) != s[:r.At] || r.Done() != (n == there) {
				t.Fatalf("%d told, %d there: %v", n, there, got)
			}
		}
	}
}

// P17.1: counts that are cut, or one of whose numbers has more bytes than it needs, or too great a one, are none.
func TestReadCountsOfWrongBytes(t *testing.T) {
	for _, l := range [][]api.Count{nil, {{Dev: 0, Inc: 1}}, countsOf(1, 2, 10), countsOf(0, 1, 2, 3, 4, 5, 6, 7, 8, 9, 10, 11)} {
		text := countBytes(l)
		for n := range len(text) {
			noCounts(t, "cut", text[:n])
		}
	}
	numbers := []int{2, 3, 4, 1, 5, 6, 0}
	for i, n := range numbers {
		low := nums(n)[0]
		for _, wrong := range []string{
			string([]byte{low | 128, 0}),
			string([]byte{low | 128, 128, 0}),
			string([]byte{low | 128}) + strings.Repeat("\x80", 8) + "\x02", // 2^64 more
			strings.Repeat("\xff", 12),
		} {
			s := nums(numbers[:i]...) + wrong + nums(numbers[i+1:]...)
			noCounts(t, "a wrong number", s)
			noCounts(t, "a wrong number", s+strings.Repeat("\x02", 20))
			noSnapshot(t, "a wrong number", nums(0, 0, 0, 0, 0)+s)
		}
	}
	r := &code.Reader{S: nums(numbers...)}
	if l := gift.ReadCounts(r); !r.Done() || !slices.Equal(l, []api.Count{{Dev: 3, Inc: 4, N: 1}, {Dev: 5, Inc: 6}}) {
		t.Errorf("the numbers themselves: %v", l)
	}
}

// P17.1: behind Bad, and at places outside, nothing is read, though counts stand there.
func TestReadCountsBehindBad(t *testing.T) {
	for _, l := range [][]api.Count{nil, {{Dev: 0, Inc: 1}}, countsOf(1, 2, 10)} {
		text := countBytes(l)
		r := &code.Reader{S: text, Bad: true}
		if got := gift.ReadCounts(r); len(got) > 0 || !r.Bad {
			t.Errorf("behind Bad: %v, %#v", got, *r)
		}
		r = &code.Reader{S: countBytes(countsOf(2, 1)) + text}
		if gift.ReadCounts(r); len(gift.ReadCounts(r)) > 0 || r.Num() != 0 || !r.Bad || r.Done() {
			t.Errorf("behind wrong counts: %#v", *r)
		}
		for _, place := range []int{math.MinInt, -1, len(text), len(text) + 1, math.MaxInt - 1, math.MaxInt} {
			r = &code.Reader{S: text, At: place}
			if got := gift.ReadCounts(r); len(got) > 0 || !r.Bad {
				t.Errorf("at %d: %v, %#v", place, got, *r)
			}
		}
	}
}

// P17.1: Thaw tells all that a snapshot has, and nothing else, at the ends of place and clock, too.
func TestThaw(t *testing.T) {
	ends := []int{0, 1, 63, 64, 1 << 32, mostCount - 1, mostCount}
	for i, p := range pasts() {
		for j, l := range counts() {
			for k, pos := range ends {
				clock := ends[(i+j+k)%len(ends)]
				got, is := gift.Thaw(bytes(pos, clock, p, l))
				if !is || !equal(got, state(pos, clock, p, l)) {
					t.Fatalf("Thaw of %d, %d, %v, %v = %v, %v", pos, clock, p, l, got, is)
				}
			}
		}
	}
}

// P17.1: what Freeze writes of what may be Thaw reads; clock, place and stable counter needn't fit one another.
func TestThereAndBack(t *testing.T) {
	draw := rand.New(rand.NewSource(171))
	all := counts()
	for i := range 3000 {
		p := pasts()[i%len(pasts())]
		for range draw.Intn(6) {
			p, _ = past.Add(p, to(min(mostCount, p.T+1+draw.Intn(99)), draw.Intn(nodes), 2+draw.Intn(62), draw.Intn(2)))
		}
		p = past.Settle(p, min(mostCount, p.T+draw.Intn(60)))
		pos, clock, l := draw.Intn(mostCount+1), draw.Intn(mostCount+1), all[draw.Intn(len(all))]
		s := gift.Freeze(pos, clock, p, l)
		got, is := gift.Thaw(s)
		if !is || !equal(got, state(pos, clock, p, l)) || gift.Freeze(got.Stream.Pos, got.Clock, got.Past, got.Counts) != s {
			t.Fatalf("%d, %d, %v, %v come back as %v, %v", pos, clock, p, l, got, is)
		}
	}
}

// P17.1: each part that may not be, alone; each thing more, and each thing less.
func TestThawOfWrong(t *testing.T) {
	good, few := pasts()[6], countsOf(1, 4, 10)
	for _, n := range edges() {
		if n < 0 || n > mostCount {
			noSnapshot(t, "a wrong place", bytes(n, 9, good, few))
			noSnapshot(t, "a wrong clock", bytes(7, n, good, few))
		}
	}
	for _, p := range nonPasts() {
		noSnapshot(t, "a wrong past", bytes(7, 9, p, few))
	}
	for _, l := range nonCounts() {
		noSnapshot(t, "wrong counts", bytes(7, 9, good, l))
	}
	for _, p := range pasts() {
		s := bytes(7, 9, p, few)
		for n := range len(s) {
			noSnapshot(t, "cut", s[:n])
		}
		for _, more := range []string{"\x00", "x", "\xff", "\x80", nums(11, 1, 0), s, strings.Repeat("\x00", 1<<16)} {
			noSnapshot(t, "more behind it", s+more)
		}
	}
	for i := range 4 { // place, clock, how many places, stable counter
		for _, wrong := range []string{"\x80\x00", "\x80\x80\x00", "\x80\x80\x80\x80\x80\x80\x80\x80\x80\x02", strings.Repeat("\xff", 12)} {
			noSnapshot(t, "a wrong number", strings.Repeat("\x00", i)+wrong+strings.Repeat("\x00", 5-i))
		}
	}
	if _, is := gift.Thaw(strings.Repeat("\x00", 6)); !is {
		t.Error("the empty snapshot")
	}
}

// P17.1: a past that is read has at most 4096 operations, and so has a snapshot's.
func TestThawOfMany(t *testing.T) {
	p := many(mostOps)
	if x, is := gift.Thaw(bytes(7, 9, p, nil)); !is || !equal(x, state(7, 9, p, nil)) {
		t.Errorf("%d operations: %d, %v", mostOps, len(x.Past.Ops), is)
	}
	noSnapshot(t, "one operation more", bytes(7, 9, many(mostOps+1), nil))
}

// P17.1: what Thaw takes is what Freeze writes, and may be, whichever bytes are changed.
func TestOneWriting(t *testing.T) {
	draw := rand.New(rand.NewSource(172))
	all, lists := pasts()[:7], counts()
	taken, refused := 0, 0
	for range 100000 {
		b := []byte(bytes(draw.Intn(300), draw.Intn(300), all[draw.Intn(len(all))], lists[draw.Intn(len(lists))]))
		for range 1 + draw.Intn(2) {
			b[draw.Intn(len(b))] = byte(draw.Intn(256))
		}
		x, is := gift.Thaw(string(b))
		if !is {
			refused++
			if !equal(x, api.State{}) {
				t.Fatalf("% x is none, and %v", b, x)
			}
			continue
		}
		taken++
		pos, clock := x.Stream.Pos, x.Clock
		if bytes(pos, clock, x.Past, x.Counts) != string(b) || !past.Right(x.Past) || !rightCounts(x.Counts) || !equal(x, state(pos, clock, x.Past, x.Counts)) || min(pos, clock) < 0 || max(pos, clock) > mostCount {
			t.Fatalf("% x is taken as %v", b, x)
		}
	}
	if taken < 5000 || refused < 5000 {
		t.Errorf("only %d taken, %d refused", taken, refused)
	}
}

// P17.3: a snapshot's chunks of whatever size, one behind the other, are the snapshot, and thaw as it.
func TestSnapshotInChunks(t *testing.T) {
	for i, p := range pasts() {
		for _, l := range [][]api.Count{nil, countsOf(1, 4, 10), countsOf(0, 1, 2, 3, 4, 5, 6, 7, 8, 9, 10, 11)} {
			s := gift.Freeze(i, 9*i, p, l)
			for _, size := range []int{1, 2, 7, 32, 255, 256, len(s) - 1, len(s), len(s) + 1} {
				var whole strings.Builder
				for k := 0; ; k++ {
					g, is := gift.Cut(s, size, k, api.Report{Dev: 3, Inc: 2, Chunk: k})
					if is != (k < gift.Chunks(s, size)) {
						t.Fatalf("chunk %d of %d bytes by %d: %v", k, len(s), size, is)
					}
					if !is {
						break
					}
					whole.WriteString(g.Data)
				}
				x, is := gift.Thaw(whole.String())
				if whole.String() != s || !is || !equal(x, state(i, 9*i, p, l)) {
					t.Fatalf("%d bytes by %d: %q, %v", len(s), size, whole.String(), is)
				}
			}
		}
	}
}

// Rule 3: what is handed in stays as it was, its spare room too; what Thaw answers shares nothing with another answer.
func TestMemoryOfSnapshots(t *testing.T) {
	p, l := many(20), countsOf(1, 2, 3, 4, 5)
	p.Ops = p.Ops[:15]
	q, was := many(20), slices.Clone(l)
	s := gift.Freeze(7, 9, p, l[:3])
	if !slices.Equal(l, was) || !slices.Equal(p.Ops[:20], q.Ops) || !slices.Equal(p.Undos, q.Undos) || !slices.Equal(p.Now, q.Now) {
		t.Error("Freeze has changed what was handed in")
	}
	a, _ := gift.Thaw(s)
	b, _ := gift.Thaw(s)
	clear(a.Counts[:cap(a.Counts)])
	clear(a.Past.Ops[:cap(a.Past.Ops)])
	clear(a.Past.Undos[:cap(a.Past.Undos)])
	clear(a.Past.Now[:cap(a.Past.Now)])
	clear(a.Past.Base[:cap(a.Past.Base)])
	if want := state(7, 9, pastOf(nil, 0, q.Ops[:15]...), was[:3]); !equal(b, want) {
		t.Errorf("an answer has changed: %v", b)
	}
}

// Rule 4: a call hangs on its arguments alone, not on what was asked ahead of it.
func TestAgain(t *testing.T) {
	all := pasts()
	for i, p := range all {
		other, l := all[(i+1)%len(all)], countsOf(i)
		s := gift.Freeze(i, i, p, l)
		x, _ := gift.Thaw(s)
		gift.Thaw(gift.Freeze(9, 9, other, nil))
		gift.Thaw("\xff")
		gift.ReadCounts(&code.Reader{S: "\xff"})
		if y, is := gift.Thaw(s); !is || !equal(x, y) || gift.Freeze(i, i, p, l) != s {
			t.Fatalf("%v: other answers", p)
		}
	}
}
