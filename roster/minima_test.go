package roster_test

import (
	"math"
	"math/rand"
	"slices"
	"testing"

	"bargeman/api"
	"bargeman/roster"
)

// stable is Stable as the chapter's words tell it.
func stable(l []api.Member, pos int) int {
	all := []int{pos}
	for _, m := range l {
		if m.In {
			all = append(all, m.Report.Pos)
		}
	}
	return slices.Min(all)
}

// counter is Counter as the chapter's words tell it.
func counter(l []api.Member, clock, lowest int) int {
	all := []int{clock, lowest - 1}
	for _, m := range l {
		switch {
		case !m.In:
		case m.Report.Sent == m.N:
			all = append(all, m.Report.Clock)
		default:
			all = append(all, m.Last)
		}
	}
	return slices.Min(all)
}

// overdue is Overdue as the chapter's words tell it.
func overdue(l []api.Member, heard []int, now, lease int) []int {
	var all []int
	for _, m := range l {
		for i, then := range heard {
			if m.In && m.Dev == i && now-then > lease {
				all = append(all, m.Dev)
			}
		}
	}
	return all
}

// at is a member that is In, by what Stable and Counter hang on.
func at(dev, pos, clock, sent, n, last int) api.Member {
	m := apart(dev)
	m.In, m.N, m.Last = true, n, last
	m.Report.Pos, m.Report.Clock, m.Report.Sent = pos, clock, sent
	return m
}

// out is m, not In.
func out(m api.Member) api.Member {
	m.In = false
	return m
}

// P16.1: the chapter's example.
func TestExample(t *testing.T) {
	a, b := roster.New([]int{1, 2})[0], roster.New([]int{1, 2})[1]
	a.Report.Pos = 5
	for _, l := range [][]api.Member{{a, b}, {b, a}} {
		if got := roster.Stable(l, 9); got != 0 {
			t.Errorf("places 5 and 0: Stable %d", got)
		}
	}
}

// P16.1: Stable, by hand.
func TestStable(t *testing.T) {
	five, seven, none := at(1, 5, 1, 1, 1, 1), at(2, 7, 1, 1, 1, 1), at(3, 0, 1, 1, 1, 1)
	for i, c := range []struct {
		l         []api.Member
		pos, want int
	}{
		{nil, 9, 9},
		{nil, 0, 0},
		{nil, -4, -4},
		{nil, math.MaxInt, math.MaxInt},
		{[]api.Member{five}, 9, 5},
		{[]api.Member{five}, 6, 5},
		{[]api.Member{five}, 5, 5},
		{[]api.Member{five}, 4, 4},
		{[]api.Member{five, seven}, 9, 5},
		{[]api.Member{seven, five}, 9, 5},
		{[]api.Member{five, seven, none}, 9, 0},
		{[]api.Member{five, out(none)}, 9, 5},
		{[]api.Member{out(five), seven}, 9, 7},
		{[]api.Member{out(five), out(seven)}, 9, 9},
		{[]api.Member{out(none)}, 9, 9},
		{[]api.Member{{In: true, Report: api.Report{Pos: -3}}, seven}, 9, -3},
		{[]api.Member{{In: true, Report: api.Report{Pos: math.MinInt}}}, 0, math.MinInt},
		{[]api.Member{{In: true, Report: api.Report{Pos: math.MaxInt}}}, math.MinInt, math.MinInt},
	} {
		if got := roster.Stable(c.l, c.pos); got != c.want {
			t.Errorf("%d: Stable of %d = %d, not %d", i, c.pos, got, c.want)
		}
	}
}

// P16.1: Counter, by hand: a report's Clock counts if nothing that was sent ahead of it is missing, else the last operation's.
func TestCounter(t *testing.T) {
	all, missing, newer := at(1, 1, 9, 2, 2, 6), at(1, 1, 9, 3, 2, 6), at(1, 1, 9, 1, 2, 6)
	low, high := at(2, 1, 4, 0, 0, 0), at(2, 1, 8, 5, 5, 7)
	for i, c := range []struct {
		l                   []api.Member
		clock, lowest, want int
	}{
		{nil, 20, 30, 20},
		{nil, 30, 20, 19},
		{nil, 20, 21, 20},
		{nil, 20, 20, 19},
		{nil, 20, 22, 20},
		{nil, 0, 0, -1},
		{nil, -5, mostCount + 1, -5},
		{nil, mostCount, mostCount + 1, mostCount},
		{nil, math.MaxInt, math.MaxInt, math.MaxInt - 1},
		{nil, math.MaxInt, math.MinInt + 1, math.MinInt},
		{[]api.Member{all}, 20, 30, 9},
		{[]api.Member{all}, 9, 10, 9},
		{[]api.Member{all}, 8, 30, 8},
		{[]api.Member{all}, 20, 9, 8},
		{[]api.Member{missing}, 20, 30, 6},
		{[]api.Member{newer}, 20, 30, 6},
		{[]api.Member{missing}, 5, 30, 5},
		{[]api.Member{missing}, 20, 6, 5},
		{[]api.Member{all, low}, 20, 30, 4},
		{[]api.Member{all, high}, 20, 30, 8},
		{[]api.Member{missing, high}, 20, 30, 6},
		{[]api.Member{high, missing}, 20, 30, 6},
		{[]api.Member{all, out(low)}, 20, 30, 9},
		{[]api.Member{out(missing), high}, 20, 30, 8},
		{[]api.Member{out(all), out(low)}, 20, 30, 20},
		{[]api.Member{at(3, 1, 6, 2, 1, 9)}, 20, 30, 9}, // Last counts, though Clock is less
		{[]api.Member{at(3, 1, 9, 0, 0, 0)}, 20, 30, 9}, // no operation at all: nothing is missing
		{[]api.Member{at(3, 1, math.MinInt, -1, -1, 0)}, 20, 30, math.MinInt},
		{[]api.Member{at(3, 1, 0, math.MinInt, math.MaxInt, math.MinInt)}, 20, 30, math.MinInt},
	} {
		if got := roster.Counter(c.l, c.clock, c.lowest); got != c.want {
			t.Errorf("%d: Counter of %d and %d = %d, not %d", i, c.clock, c.lowest, got, c.want)
		}
	}
}

// P16.1: the minima of all lists of up to two members by few numbers, against those that the words tell.
func TestMinimaOfAll(t *testing.T) {
	var few []api.Member
	for n := range 1 << 6 {
		bit := func(i int) int { return n >> i & 1 }
		m := at(n%5, 1+bit(0), 3+2*bit(1), bit(2), bit(3), 2+3*bit(4))
		m.In = bit(5) == 1
		few = append(few, m)
	}
	all := [][]api.Member{nil}
	for _, a := range few {
		all = append(all, []api.Member{a})
		for _, b := range few {
			all = append(all, []api.Member{a, b})
		}
	}
	for _, l := range all {
		for a := range 7 {
			if got := roster.Stable(l, a); got != stable(l, a) {
				t.Fatalf("Stable(%v, %d) = %d", l, a, got)
			}
			for b := range 7 {
				if got := roster.Counter(l, a, b); got != counter(l, a, b) {
					t.Fatalf("Counter(%v, %d, %d) = %d", l, a, b, got)
				}
			}
		}
	}
}

// drawn is up to ten members of drawn numbers, of few devices, in any order.
func drawn(draw *rand.Rand) []api.Member {
	var l []api.Member
	for range draw.Intn(11) {
		n := draw.Intn(3)
		m := at(draw.Intn(14)-1, draw.Intn(30), draw.Intn(30), n, n+draw.Intn(5)/4, draw.Intn(30))
		m.In = draw.Intn(4) > 0
		m.Inc, m.Out, m.Report.Inc, m.Report.Mode = draw.Intn(3), draw.Intn(30), draw.Intn(3), 1+draw.Intn(2)
		m.Report.Dev, m.Report.Boot, m.Report.Beat, m.Report.Chunk = draw.Intn(14), draw.Intn(3), draw.Intn(9), draw.Intn(3)
		l = append(l, m)
	}
	return l
}

// ticks is up to fifteen drawn ones.
func ticks(draw *rand.Rand) []int {
	var l []int
	for range draw.Intn(16) {
		l = append(l, draw.Intn(30))
	}
	return l
}

// P16.1: drawn lists, against the words.
func TestOfDrawn(t *testing.T) {
	draw := rand.New(rand.NewSource(161))
	late := 0
	for range 200000 {
		l, heard := drawn(draw), ticks(draw)
		a, b := draw.Intn(40), draw.Intn(40)
		if roster.Stable(l, a) != stable(l, a) || roster.Counter(l, a, b) != counter(l, a, b) {
			t.Fatalf("%d, %d of %v: %d, %d", a, b, l, roster.Stable(l, a), roster.Counter(l, a, b))
		}
		got := roster.Overdue(l, heard, a, b-5)
		if !slices.Equal(got, overdue(l, heard, a, b-5)) {
			t.Fatalf("Overdue(%v, %v, %d, %d) = %v", l, heard, a, b-5, got)
		}
		late += len(got)
	}
	if late < 100000 {
		t.Errorf("only %d overdue", late)
	}
}

// P16.1: Overdue, by hand.
func TestOverdue(t *testing.T) {
	l := roster.New([]int{1, 2, 4})
	some := roster.Put(l, out(l[1]))
	heard := []int{0, 10, 11, 0, 12}
	for i, c := range []struct {
		l          []api.Member
		heard      []int
		now, lease int
		want       []int
	}{
		{l, heard, 20, 10, nil},
		{l, heard, 21, 10, []int{1}},
		{l, heard, 22, 10, []int{1, 2}},
		{l, heard, 23, 10, []int{1, 2, 4}},
		{l, heard, 99, 10, []int{1, 2, 4}},
		{l, heard, 12, 0, []int{1, 2}},
		{l, heard, 12, -1, []int{1, 2, 4}},
		{l, heard, 9, -1, nil},
		{l, heard, 9, -2, []int{1}},
		{some, heard, 99, 10, []int{1, 4}},
		{some, heard, 22, 10, []int{1}},
		{l, heard[:4], 99, 10, []int{1, 2}},
		{l, heard[:3], 99, 10, []int{1, 2}},
		{l, heard[:2], 99, 10, []int{1}},
		{l, heard[:1], 99, 10, nil},
		{l, nil, 99, 10, nil},
		{nil, heard, 99, 10, nil},
		{nil, nil, 0, 0, nil},
		{[]api.Member{l[2], l[0], l[1], l[0]}, heard, 99, 10, []int{4, 1, 2, 1}},
		{roster.New([]int{0}), []int{3}, 5, 1, []int{0}},
		{roster.New([]int{0}), []int{3}, 5, 2, nil},
		{roster.New([]int{-1, 5, 0, math.MinInt, math.MaxInt}), heard, 99, 10, []int{0}},
		{l, []int{0, -7, -6, 0, -5}, 3, 9, []int{1}},
		{l, heard, mostCount, mostCount - 11, []int{1}},
		{l, []int{0, 1 << 40, 0, 0, 1<<40 + 1}, 1<<40 + 5, 4, []int{1, 2}},
	} {
		if got := roster.Overdue(c.l, c.heard, c.now, c.lease); !slices.Equal(got, c.want) {
			t.Errorf("%d: Overdue(%v, %d, %d) = %v, not %v", i, c.heard, c.now, c.lease, got, c.want)
		}
	}
}

// P16.1: who is overdue hangs on Dev, In and heard alone.
func TestOverdueOfOtherFields(t *testing.T) {
	heard := []int{0, 0, 10, 0, 0}
	for _, f := range fields()[1:] {
		for _, n := range edges() {
			m := apart(2)
			m.In = true
			*f.of(&m) = n
			if got := roster.Overdue([]api.Member{m}, heard, 15, 4); !slices.Equal(got, []int{2}) {
				t.Errorf("%s %d: %v", f.name, n, got)
			}
			if got := roster.Overdue([]api.Member{m}, heard, 15, 5); len(got) > 0 {
				t.Errorf("%s %d: %v", f.name, n, got)
			}
		}
	}
}

// P16.1: the minima hang on no other fields than those that the words name.
func TestMinimaOfOtherFields(t *testing.T) {
	names := []string{"N", "Last", "the report's Pos", "the report's Clock", "the report's Sent"}
	for _, base := range []api.Member{at(1, 5, 7, 2, 2, 6), at(1, 5, 7, 3, 2, 6)} {
		for _, f := range fields() {
			for _, n := range edges() {
				m := base
				*f.of(&m) = n
				m.Frozen = "frozen"
				l := []api.Member{m}
				a, b := roster.Stable(l, 9), roster.Counter(l, 9, 99)
				if a != stable(l, 9) || b != counter(l, 9, 99) {
					t.Fatalf("%s %d: %d, %d", f.name, n, a, b)
				}
				if !slices.Contains(names, f.name) && (a != 5 || b != roster.Counter([]api.Member{base}, 9, 99)) {
					t.Fatalf("%s %d counts: %d, %d", f.name, n, a, b)
				}
			}
		}
	}
}

// P16.1: nothing bounds how many there are.
func TestOfMany(t *testing.T) {
	var l []api.Member
	heard := make([]int, 5000)
	for dev := range 5000 {
		l = append(l, at(dev, 6000-dev, 6000-dev, 1, 1, 0))
		heard[dev] = dev
	}
	if roster.Right(l) || roster.Find(l, 4999) != 4999 || roster.Stable(l, 9000) != 1001 || roster.Counter(l, 9000, 9000) != 1001 {
		t.Errorf("of many: %d, %d", roster.Stable(l, 9000), roster.Counter(l, 9000, 9000))
	}
	if late := roster.Overdue(l, heard, 5000, 1); len(late) != 4999 || late[4998] != 4998 {
		t.Errorf("of many %d are overdue", len(late))
	}
	if got := roster.Put(l, most(11)); len(got) != 5000 || got[11] != most(11) || got[4999] != l[4999] {
		t.Error("Put among many")
	}
}

// P16.3: those that aren't In count for nothing: without them, and with any other ones, all is the same.
func TestOut(t *testing.T) {
	draw := rand.New(rand.NewSource(163))
	ends := edges()
	for range 100000 {
		l, heard := drawn(draw), ticks(draw)
		var in, other []api.Member
		for _, m := range l {
			for draw.Intn(3) == 0 { // some more of those that count for nothing
				other = append(other, anyOut(draw, ends))
			}
			if m.In {
				in, other = append(in, m), append(other, m)
			}
		}
		a, b := draw.Intn(40), draw.Intn(40)
		for _, x := range [][]api.Member{in, other} {
			if roster.Stable(l, a) != roster.Stable(x, a) || roster.Counter(l, a, b) != roster.Counter(x, a, b) || !slices.Equal(roster.Overdue(l, heard, a, b-5), roster.Overdue(x, heard, a, b-5)) {
				t.Fatalf("%v and %v: not the same", l, x)
			}
		}
	}
}

// anyOut is a member of any numbers, not In.
func anyOut(draw *rand.Rand, ends []int) api.Member {
	m := apart(draw.Intn(nodes))
	for _, f := range fields() {
		if draw.Intn(2) == 0 {
			*f.of(&m) = ends[draw.Intn(len(ends))]
		}
	}
	return out(m)
}
