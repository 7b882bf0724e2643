package roster_test

import (
	"math"
	"math/rand"
	"slices"
	"strings"
	"testing"

	"bargeman/api"
	"bargeman/roster"
)

// The document's numbers, written out: the tests shall not follow one that is changed.
const (
	live      = 1
	joining   = 2
	mostCount = 1 << 40
	mostBytes = 65536
	nodes     = 12
	mostDevs  = 8
)

// field is one of a member's numbers, or of its report's, and the bounds of one that may be.
type field struct {
	name        string
	of          func(m *api.Member) *int
	least, most int
}

// fields is a member's, and then its report's, in the order of their bytes.
func fields() []field {
	return []field{
		{"Dev", func(m *api.Member) *int { return &m.Dev }, 0, nodes - 1},
		{"Inc", func(m *api.Member) *int { return &m.Inc }, 1, mostCount},
		{"N", func(m *api.Member) *int { return &m.N }, 0, mostCount},
		{"Last", func(m *api.Member) *int { return &m.Last }, 0, mostCount},
		{"Out", func(m *api.Member) *int { return &m.Out }, 0, mostCount},
		{"the report's Dev", func(m *api.Member) *int { return &m.Report.Dev }, 0, nodes - 1},
		{"the report's Inc", func(m *api.Member) *int { return &m.Report.Inc }, 1, mostCount},
		{"the report's Boot", func(m *api.Member) *int { return &m.Report.Boot }, 0, mostCount},
		{"the report's Beat", func(m *api.Member) *int { return &m.Report.Beat }, 0, mostCount},
		{"the report's Mode", func(m *api.Member) *int { return &m.Report.Mode }, live, joining},
		{"the report's Pos", func(m *api.Member) *int { return &m.Report.Pos }, 0, mostCount},
		{"the report's Clock", func(m *api.Member) *int { return &m.Report.Clock }, 0, mostCount},
		{"the report's Sent", func(m *api.Member) *int { return &m.Report.Sent }, 0, mostCount},
		{"the report's Chunk", func(m *api.Member) *int { return &m.Report.Chunk }, 0, mostCount},
	}
}

// least is the member of dev of the least numbers that may be.
func least(dev int) api.Member {
	return api.Member{Dev: dev, Inc: 1, Report: api.Report{Dev: dev, Inc: 1, Mode: live}}
}

// most is the member of dev of the greatest numbers that may be.
func most(dev int) api.Member {
	const n = mostCount
	return api.Member{
		Dev: dev, Inc: n, In: true, N: n, Last: n, Out: n,
		Report: api.Report{Dev: dev, Inc: n, Boot: n, Beat: n, Mode: joining, Pos: n, Clock: n, Sent: n, Chunk: n},
		Frozen: strings.Repeat("\xff", mostBytes),
	}
}

// apart is a member of dev whose other fields are all different, and others for each dev; those of odd ones are In.
func apart(dev int) api.Member {
	return api.Member{
		Dev: dev, Inc: 21 + dev, In: dev%2 == 1, N: 300 + dev, Last: 4000 + dev, Out: 50 + dev,
		Report: api.Report{Dev: dev, Inc: 80 + dev, Boot: 100 + dev, Beat: 120 + dev, Mode: live + dev/2%2, Pos: 700 + dev, Clock: 8000 + dev, Sent: 140 + dev, Chunk: 160 + dev},
		Frozen: strings.Repeat("f", max(dev, 0)%13),
	}
}

// row is of each of devs what one answers.
func row(one func(dev int) api.Member, devs ...int) []api.Member {
	var l []api.Member
	for _, dev := range devs {
		l = append(l, one(dev))
	}
	return l
}

// lists is such that may be: of all lengths, at the ends of each field, at each place.
func lists() [][]api.Member {
	l := [][]api.Member{nil, {}, row(least, 0), row(most, 11), row(least, 4, 5, 6, 7, 8, 9, 10, 11), row(most, 0, 1, 2, 3, 4, 5, 6, 7)}
	for n := range mostDevs + 1 {
		l = append(l, row(apart, []int{0, 1, 3, 4, 6, 8, 10, 11}[:n]...))
	}
	base := row(apart, 1, 4, 10)
	for i := range base {
		for _, f := range fields() {
			if f.most == nodes-1 { // Dev and the report's are one
				continue
			}
			for _, n := range []int{f.least, f.least + 1, f.most - 1, f.most} {
				l = append(l, slices.Clone(base))
				*f.of(&l[len(l)-1][i]) = n
			}
		}
		for _, n := range []int{0, 1, 63, 64, mostBytes - 1, mostBytes} {
			for _, in := range []bool{true, false} {
				l = append(l, slices.Clone(base))
				l[len(l)-1][i].Frozen, l[len(l)-1][i].In = strings.Repeat("\x00", n), in
			}
		}
	}
	return l
}

// wrongs is lists that may not be, each by one thing alone.
func wrongs() [][]api.Member {
	l := [][]api.Member{
		{{}}, {{Dev: 1, Inc: 1}},
		row(least, 1, 1), row(least, 2, 1), row(least, 11, 0), row(apart, 1, 2, 2), row(apart, 1, 1, 2), row(apart, 2, 1, 3), row(apart, 1, 3, 2),
		row(least, 0, 1, 2, 3, 4, 5, 6, 7, 7), row(least, 12), row(least, -1), row(least, -1, 0), row(least, 10, 11, 12), row(apart, 0, 1, 2, 12), row(most, 5, 5),
	}
	for n := mostDevs + 1; n <= nodes; n++ {
		l = append(l, row(least, []int{0, 1, 2, 3, 4, 5, 6, 7, 8, 9, 10, 11}[:n]...), row(apart, []int{0, 1, 2, 3, 4, 5, 6, 7, 8, 9, 10, 11}[:n]...))
	}
	base := row(apart, 1, 4, 10)
	change := func(i int, by func(m *api.Member)) {
		l = append(l, slices.Clone(base))
		by(&l[len(l)-1][i])
	}
	for i := range base {
		for _, f := range fields() {
			for _, n := range edges() {
				if f.most == nodes-1 && n != base[i].Dev || n < f.least || n > f.most {
					change(i, func(m *api.Member) { *f.of(m) = n })
				}
			}
		}
		for _, dev := range []int{-1, 12} { // the report follows
			change(i, func(m *api.Member) { m.Dev, m.Report.Dev = dev, dev })
		}
		for _, n := range []int{mostBytes + 1, mostBytes + 2, 2 * mostBytes, 1 << 20} {
			change(i, func(m *api.Member) { m.Frozen = strings.Repeat("x", n) })
		}
		change(i, func(m *api.Member) { m.Report = api.Report{} })
		change(i, func(m *api.Member) { *m = api.Member{} })
	}
	return l
}

// edges is numbers around all bounds, and around those at which a smaller kind of number would wrap.
func edges() []int {
	l := []int{math.MinInt, math.MinInt + 1, math.MaxInt - 1, math.MaxInt}
	for n := -3; n < 15; n++ {
		l = append(l, n)
	}
	for _, n := range []int{1 << 8, 1 << 16, 1 << 31, 1 << 32, mostCount, 1 << 53, 1 << 62} {
		l = append(l, n-1, n, n+1, n+2, -n-1, -n, -n+1)
	}
	return l
}

// right is Right as the chapter's words tell it.
func right(l []api.Member) bool {
	if len(l) > mostDevs {
		return false
	}
	for i, m := range l {
		for _, f := range fields() {
			if n := *f.of(&m); n < f.least || n > f.most {
				return false
			}
		}
		if m.Report.Dev != m.Dev || len(m.Frozen) > mostBytes || i > 0 && l[i-1].Dev >= m.Dev {
			return false
		}
	}
	return true
}

// short is what a list is called where a test fails: its Frozens may be long.
func short(l []api.Member) []api.Member {
	l = slices.Clone(l)
	for i := range l {
		if n := len(l[i].Frozen); n > 20 {
			l[i].Frozen = l[i].Frozen[:20] + " and more"
		}
	}
	return l[:min(len(l), 20)]
}

// P16.1: lists that may be, at the ends of each field.
func TestRight(t *testing.T) {
	for _, l := range lists() {
		if !roster.Right(l) {
			t.Errorf("%v may be", short(l))
		}
	}
}

// P16.1: each thing that is wrong, alone.
func TestRightOfWrong(t *testing.T) {
	all := wrongs()
	for _, l := range all {
		if right(l) || roster.Right(l) {
			t.Errorf("%v may not be", short(l))
		}
	}
	if len(all) < 3*14*30 {
		t.Errorf("only %d", len(all))
	}
}

// P16.1: the members' Devs alone: all lists of up to four of them that are around the bounds.
func TestRightOfDevs(t *testing.T) {
	devs := []int{-1, 0, 1, 2, 10, 11, 12}
	all := [][]int{nil}
	may := 0
	for i := 0; i < len(all); i++ {
		want := true
		for k, dev := range all[i] {
			want = want && 0 <= dev && dev < nodes && (k == 0 || all[i][k-1] < dev)
			if k == len(all[i])-1 && want {
				may++
			}
		}
		if roster.Right(row(least, all[i]...)) != want {
			t.Fatalf("Right of %v isn't %v", all[i], want)
		}
		for _, dev := range devs {
			if len(all[i]) < 4 {
				all = append(all, append(slices.Clone(all[i]), dev))
			}
		}
	}
	if may != 5+10+10+5 || len(all) != 1+7+49+343+2401 {
		t.Errorf("%d of %d may be", may, len(all))
	}
}

// P16.1: the life of a member's report needn't be the member's.
func TestRightOfOtherLife(t *testing.T) {
	for _, inc := range []int{1, 4, 5, 6, mostCount} {
		for _, mode := range []int{live, joining} {
			for _, in := range []bool{true, false} {
				m := apart(3)
				m.In, m.Inc, m.Report.Inc, m.Report.Mode = in, 5, inc, mode
				if !roster.Right([]api.Member{m}) {
					t.Errorf("%v may be", m)
				}
			}
		}
	}
}

// P16.1: drawn numbers in all fields at once.
func TestRightOfNumbers(t *testing.T) {
	draw := rand.New(rand.NewSource(16))
	ends := edges()
	may := 0
	for range 60000 {
		l := row(apart, 2, 5, 9)
		for i := range l {
			for _, f := range fields() {
				if f.most != nodes-1 && draw.Intn(4) > 0 {
					*f.of(&l[i]) = f.least + draw.Intn(f.most-f.least+1)
				} else if draw.Intn(20) == 0 {
					*f.of(&l[i]) = ends[draw.Intn(len(ends))]
				}
			}
		}
		if roster.Right(l) != right(l) {
			t.Fatalf("Right(%v) isn't %v", l, right(l))
		}
		if right(l) {
			may++
		}
	}
	if may < 6000 || may > 54000 {
		t.Errorf("%d may be", may)
	}
}

// P16.1: New, by hand.
func TestNew(t *testing.T) {
	a := api.Member{Dev: 2, Inc: 1, In: true, Report: api.Report{Dev: 2, Inc: 1, Mode: 1}}
	b := api.Member{Dev: 5, Inc: 1, In: true, Report: api.Report{Dev: 5, Inc: 1, Mode: 1}}
	for _, c := range []struct {
		devs []int
		want []api.Member
	}{
		{nil, nil},
		{[]int{}, nil},
		{[]int{2}, []api.Member{a}},
		{[]int{2, 5}, []api.Member{a, b}},
		{[]int{5, 2, 5}, []api.Member{b, a, b}},
	} {
		if got := roster.New(c.devs); !slices.Equal(got, c.want) {
			t.Errorf("New(%v) = %v", c.devs, got)
		}
	}
}

// P16.1: New of any numbers, and of many; of devices that may be it may be.
func TestNewOfAny(t *testing.T) {
	devs := edges()
	for n := range 3000 {
		devs = append(devs, n%50-10)
	}
	got := roster.New(devs)
	if len(got) != len(devs) {
		t.Fatalf("%d of %d", len(got), len(devs))
	}
	for i, m := range got {
		if want := (api.Member{Dev: devs[i], Inc: 1, In: true, Report: api.Report{Dev: devs[i], Inc: 1, Mode: live}}); m != want {
			t.Fatalf("of %d: %v", devs[i], m)
		}
	}
	if l := roster.New([]int{0, 1, 2, 3, 8, 9, 10, 11}); !roster.Right(l) || roster.Stable(l, 9) != 0 || roster.Counter(l, 9, 9) != 0 {
		t.Errorf("at the beginning: %v", l)
	}
}

// P16.1: all lists of up to four members of few devices: the first one of a device is found, In or not, and Put in its place.
func TestFindAndPut(t *testing.T) {
	all := [][]api.Member{nil}
	for i := 0; i < len(all); i++ {
		l := all[i]
		for dev := range 5 {
			want := -1
			for k := len(l) - 1; k >= 0; k-- {
				if l[k].Dev == dev {
					want = k
				}
			}
			if got := roster.Find(l, dev); got != want {
				t.Fatalf("Find(%v, %d) = %d", l, dev, got)
			}
			for _, m := range []api.Member{most(dev), least(dev), {Dev: dev}, {Dev: dev, Report: api.Report{Dev: 1 + dev%4}}} {
				put := slices.Clone(l)
				if want >= 0 {
					put[want] = m
				}
				if got := roster.Put(l, m); !slices.Equal(got, put) {
					t.Fatalf("Put(%v, %v) = %v", l, short([]api.Member{m}), short(got))
				}
			}
		}
		for dev := range 4 {
			m := apart(dev)
			m.In, m.N, m.Report.Dev = (i+dev)%3 > 0, 1000*len(l), 3-dev // each place's is another one; its report's Dev is of no account
			if len(l) < 4 {
				all = append(all, append(slices.Clone(l), m))
			}
		}
	}
}

// P16.1: any numbers are found, and no others.
func TestFindOfAny(t *testing.T) {
	devs := edges()
	slices.Sort(devs)
	devs = slices.Compact(devs)
	l := roster.New(devs)
	for i, dev := range devs {
		if got := roster.Find(l, dev); got != i {
			t.Errorf("Find of %d: %d, not %d", dev, got, i)
		}
		without := slices.Concat(l[:i], l[i+1:])
		if got := roster.Find(without, dev); got != -1 {
			t.Errorf("Find of %d, which isn't there: %d", dev, got)
		}
		m := apart(3)
		m.Dev = dev
		if got := roster.Put(l, m); got[i] != m || !slices.Equal(slices.Concat(got[:i], got[i+1:]), without) {
			t.Errorf("Put of %d", dev)
		}
		if got := roster.Put(without, m); !slices.Equal(got, without) {
			t.Errorf("Put of %d, which isn't there", dev)
		}
	}
}

// Rule 3: what is handed in stays as it was, its spare room too, and an answer is never changed.
func TestMemory(t *testing.T) {
	for n := range 6 {
		room := row(apart, 1, 2, 3, 4, 5, 6, 7, 8)
		was := slices.Clone(room)
		for dev := range 10 {
			got := roster.Put(room[:n], least(dev))
			if !slices.Equal(room, was) {
				t.Fatalf("Put of %d has changed what was handed in", dev)
			}
			again, kept := roster.Put(got, most(dev)), slices.Clone(got)
			if again = roster.Put(again, most(1)); !slices.Equal(got, kept) {
				t.Fatalf("Put of %d: an answer has changed", dev)
			}
			clear(got[:cap(got)])
			if !slices.Equal(room, was) || slices.Contains(again, api.Member{}) {
				t.Fatalf("Put of %d shares its answer", dev)
			}
		}
		devs, heard := []int{1, 2, 3, 4, 5, 6}, []int{9, 8, 7, 6, 5, 4, 3, 2, 1, 0}
		a, b := roster.New(devs[:n]), roster.New(devs[:n])
		clear(a[:cap(a)])
		if !slices.Equal(devs, []int{1, 2, 3, 4, 5, 6}) || !slices.Equal(b, roster.New(devs[:n])) {
			t.Fatal("New has changed something, or shares it")
		}
		late := roster.Overdue(room[:n], heard[:n+1], 100, 0)
		clear(late[:cap(late)])
		roster.Stable(room[:n], 5)
		roster.Counter(room[:n], 5, 5)
		if !slices.Equal(room, was) || !slices.Equal(heard, []int{9, 8, 7, 6, 5, 4, 3, 2, 1, 0}) {
			t.Fatal("what was handed in has changed")
		}
	}
}

// Rule 4: a call hangs on its arguments alone, not on what was asked ahead of it.
func TestAgain(t *testing.T) {
	type answers struct {
		right                         bool
		find, stable, counter, chosen int
		text                          string
	}
	ask := func(l []api.Member) answers {
		late := roster.Overdue(l, make([]int, nodes), 8, 7)
		return answers{roster.Right(l), roster.Find(l, 4), roster.Stable(l, 800), roster.Counter(l, 9000, 9000), len(late), roster.Print(l)}
	}
	all := lists()
	for i, l := range all {
		first := ask(l)
		ask(all[(i+1)%len(all)])
		ask([]api.Member{{}})
		if ask(l) != first {
			t.Fatalf("%v: other answers", short(l))
		}
	}
}
