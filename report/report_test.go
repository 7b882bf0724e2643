package report_test

import (
	"math"
	"math/rand"
	"slices"
	"testing"

	"bargeman/api"
	"bargeman/report"
)

// The document's numbers, written out: the tests shall not follow one that is changed.
const (
	live      = 1
	joining   = 2
	mostCount = 1 << 40
	devices   = 12
)

// field is one of a report's, and the bounds of one that may be.
type field struct {
	name        string
	of          func(r *api.Report) *int
	least, most int
}

// fields is a report's, in the order of their bytes.
func fields() []field {
	return []field{
		{"Dev", func(r *api.Report) *int { return &r.Dev }, 0, devices - 1},
		{"Inc", func(r *api.Report) *int { return &r.Inc }, 1, mostCount},
		{"Boot", func(r *api.Report) *int { return &r.Boot }, 0, mostCount},
		{"Beat", func(r *api.Report) *int { return &r.Beat }, 0, mostCount},
		{"Mode", func(r *api.Report) *int { return &r.Mode }, live, joining},
		{"Pos", func(r *api.Report) *int { return &r.Pos }, 0, mostCount},
		{"Clock", func(r *api.Report) *int { return &r.Clock }, 0, mostCount},
		{"Sent", func(r *api.Report) *int { return &r.Sent }, 0, mostCount},
		{"Chunk", func(r *api.Report) *int { return &r.Chunk }, 0, mostCount},
	}
}

// least is the report of the least numbers that may be.
func least() api.Report { return api.Report{Inc: 1, Mode: live} }

// most is the report of the greatest numbers that may be.
func most() api.Report {
	return api.Report{
		Dev: devices - 1, Inc: mostCount, Boot: mostCount, Beat: mostCount, Mode: joining,
		Pos: mostCount, Clock: mostCount, Sent: mostCount, Chunk: mostCount,
	}
}

// apart is a report whose fields are all different.
func apart() api.Report {
	return api.Report{Dev: 3, Inc: 4, Boot: 5, Beat: 6, Mode: joining, Pos: 70, Clock: 800, Sent: 9, Chunk: 10}
}

// at is a report of dev by what tells how new it is; what else it has hangs on that.
func at(dev, inc, boot, beat int) api.Report {
	return api.Report{
		Dev: dev, Inc: inc, Boot: boot, Beat: beat, Mode: live + (inc+boot+beat)%2,
		Pos: 50 - beat, Clock: 60 - boot, Sent: 70 - inc, Chunk: 80 - inc - boot - beat,
	}
}

// reports is such that may be: of each field the least and the greatest number, beside others at both ends and between.
func reports() []api.Report {
	l := []api.Report{least(), most(), apart()}
	for _, f := range fields() {
		for _, r := range []api.Report{least(), most(), apart()} {
			for _, n := range []int{f.least, f.least + 1, f.most - 1, f.most} {
				*f.of(&r) = n
				l = append(l, r)
			}
		}
	}
	return l
}

// wrongs is reports that may not be, each by one field alone, and the zero one.
func wrongs() []api.Report {
	l := []api.Report{{}}
	for _, f := range fields() {
		for _, r := range []api.Report{least(), most(), apart()} {
			for _, n := range edges() {
				if n < f.least || n > f.most {
					*f.of(&r) = n
					l = append(l, r)
				}
			}
		}
	}
	return l
}

// edges is numbers around all bounds, and around those at which a smaller kind of number would wrap.
func edges() []int {
	l := []int{math.MinInt, math.MinInt + 1, math.MaxInt - 1, math.MaxInt}
	for n := -3; n < 15; n++ {
		l = append(l, n)
	}
	for _, n := range []int{1 << 8, 1 << 16, 1 << 31, 1 << 32, mostCount, 1 << 53, 1 << 62} {
		l = append(l, n-1, n, n+1, n+2, -n-1, -n, -n+1)
	}
	return l
}

// newer is Newer as the chapter's words tell it.
func newer(a, b api.Report) bool {
	if a.Inc != b.Inc {
		return a.Inc > b.Inc
	}
	if a.Boot != b.Boot {
		return a.Boot > b.Boot
	}
	return a.Beat > b.Beat
}

// merge is Merge as the chapter's words tell it: one by one.
func merge(l []api.Report, r api.Report) []api.Report {
	var told []api.Report
	for i, x := range l {
		switch {
		case x.Dev < r.Dev:
			told = append(told, x)
		case x.Dev > r.Dev:
			return append(append(told, r), l[i:]...)
		case newer(r, x):
			return append(append(told, r), l[i+1:]...)
		default:
			return l
		}
	}
	return append(told, r)
}

// P14.1: reports that may be, at the ends of each field.
func TestRight(t *testing.T) {
	for _, r := range append(reports(), api.Report{Dev: 2, Inc: 1, Boot: 3, Beat: 9, Mode: live}) {
		if !report.Right(r) {
			t.Errorf("%v may be", r)
		}
	}
}

// P14.1: each field outside, alone, the others at both ends and between.
func TestRightOfWrong(t *testing.T) {
	l := wrongs()
	for _, r := range l {
		if report.Right(r) {
			t.Errorf("%v may not be", r)
		}
	}
	if len(l) < 9*3*20 {
		t.Errorf("only %d", len(l))
	}
}

// P14.1: drawn numbers in all fields at once.
func TestRightOfNumbers(t *testing.T) {
	right := func(r api.Report) bool {
		for _, f := range fields() {
			if n := *f.of(&r); n < f.least || n > f.most {
				return false
			}
		}
		return true
	}
	draw := rand.New(rand.NewSource(14))
	l := edges()
	may := 0
	for range 200000 {
		r := apart()
		for _, f := range fields() {
			if draw.Intn(4) > 0 {
				*f.of(&r) = f.least + draw.Intn(f.most-f.least+1)
			} else if draw.Intn(3) == 0 {
				*f.of(&r) = l[draw.Intn(len(l))]
			}
		}
		if report.Right(r) != right(r) {
			t.Fatalf("Right(%v) isn't %v", r, right(r))
		}
		if right(r) {
			may++
		}
	}
	if may < 20000 || may > 180000 {
		t.Errorf("%d may be", may)
	}
}

// P14.1: the chapter's example.
func TestExample(t *testing.T) {
	for boot := range 5 {
		for beat := range 5 {
			a, b := at(2, 2, 0, 0), at(2, 1, boot, beat)
			if !report.Newer(a, b) || report.Newer(b, a) {
				t.Errorf("life 2 isn't newer than %v", b)
			}
		}
	}
	old := api.Report{Dev: 2, Inc: 1, Boot: mostCount, Beat: mostCount, Mode: live}
	young := api.Report{Dev: 2, Inc: 2, Mode: joining}
	if !report.Newer(young, old) || report.Newer(old, young) {
		t.Error("life 2 isn't newer than the last report that life 1 may have")
	}
}

// P14.1: newer, by hand: of lives, then of starts, then of ticks.
func TestNewer(t *testing.T) {
	for _, c := range []struct {
		a, b    api.Report
		is, isB bool // is a newer than b? is b newer than a?
	}{
		{at(2, 1, 3, 9), at(2, 1, 3, 9), false, false},
		{at(2, 1, 3, 10), at(2, 1, 3, 9), true, false},
		{at(2, 1, 4, 0), at(2, 1, 3, 9), true, false},
		{at(2, 1, 4, 9), at(2, 1, 3, 9), true, false},
		{at(2, 1, 2, 10), at(2, 1, 3, 9), false, true},
		{at(2, 2, 0, 0), at(2, 1, 3, 9), true, false},
		{at(2, 2, 3, 8), at(2, 1, 3, 9), true, false},
		{at(2, 2, 2, 9), at(2, 1, 3, 9), true, false},
		{at(2, 0, 4, 10), at(2, 1, 3, 9), false, true},
		{api.Report{}, api.Report{}, false, false},
		{api.Report{Beat: 1}, api.Report{}, true, false},
		{api.Report{Beat: math.MaxInt}, api.Report{Beat: math.MinInt}, true, false},
		{api.Report{Boot: math.MaxInt, Beat: math.MinInt}, api.Report{Boot: math.MinInt}, true, false},
		{api.Report{Inc: math.MaxInt, Boot: math.MinInt}, api.Report{Inc: math.MinInt, Beat: 1}, true, false},
	} {
		if report.Newer(c.a, c.b) != c.is || report.Newer(c.b, c.a) != c.isB {
			t.Errorf("%v and %v: not %v and %v", c.a, c.b, c.is, c.isB)
		}
	}
}

// P14.1: newer by each two numbers of each field; a lower field's don't count where a higher one's differ.
func TestNewerByField(t *testing.T) {
	for i, f := range fields() {
		for _, n := range edges() {
			for _, m := range edges() {
				a, b := apart(), apart()
				*f.of(&a), *f.of(&b) = n, m
				counts := 1 <= i && i <= 3
				if report.Newer(a, b) != (counts && n > m) {
					t.Fatalf("%s %d and %d: not %v", f.name, n, m, counts && n > m)
				}
			}
		}
	}
}

// P14.1: newer by all of Inc, Boot and Beat at once; Dev, Mode, Pos, Clock, Sent and Chunk are of no account.
func TestNewerOfAll(t *testing.T) {
	var l []api.Report
	few := []int{math.MinInt, -1, 0, 1, 2, mostCount, math.MaxInt}
	for _, inc := range few {
		for _, boot := range few {
			for _, beat := range few {
				l = append(l, api.Report{Inc: inc, Boot: boot, Beat: beat})
			}
		}
	}
	draw := rand.New(rand.NewSource(141))
	for _, a := range l {
		for _, b := range l {
			want := newer(a, b)
			for _, r := range []*api.Report{&a, &b} {
				r.Dev, r.Mode, r.Pos = draw.Intn(devices), live+draw.Intn(2), draw.Intn(9)
				r.Clock, r.Sent, r.Chunk = draw.Intn(9), draw.Intn(9), draw.Intn(9)
			}
			if report.Newer(a, b) != want {
				t.Fatalf("Newer(%v, %v) isn't %v", a, b, want)
			}
		}
	}
}

// P14.1: Merge, by hand: where a device's report comes to stand.
func TestMerge(t *testing.T) {
	old, same, young := at(5, 2, 2, 2), at(5, 2, 2, 2), at(5, 2, 2, 3)
	same.Pos, same.Mode, same.Clock = 99, 3-same.Mode, 98 // as new as the other one, yet another one
	a, b := at(3, 1, 1, 1), at(7, 9, 9, 9)
	for i, c := range []struct {
		l    []api.Report
		r    api.Report
		want []api.Report
	}{
		{nil, old, []api.Report{old}},
		{[]api.Report{}, old, []api.Report{old}},
		{[]api.Report{old}, young, []api.Report{young}},
		{[]api.Report{young}, old, []api.Report{young}},
		{[]api.Report{old}, old, []api.Report{old}},
		{[]api.Report{old}, same, []api.Report{old}},
		{[]api.Report{same}, old, []api.Report{same}},
		{[]api.Report{a}, old, []api.Report{a, old}},
		{[]api.Report{b}, old, []api.Report{old, b}},
		{[]api.Report{a, b}, old, []api.Report{a, old, b}},
		{[]api.Report{a, old, b}, young, []api.Report{a, young, b}},
		{[]api.Report{a, young, b}, old, []api.Report{a, young, b}},
		{[]api.Report{a, old, b}, same, []api.Report{a, old, b}},
		{[]api.Report{old, b}, a, []api.Report{a, old, b}},
		{[]api.Report{a, old}, b, []api.Report{a, old, b}},
		{[]api.Report{old, b}, young, []api.Report{young, b}},
		{[]api.Report{a, old}, young, []api.Report{a, young}},
		{[]api.Report{at(0, 3, 0, 0)}, at(0, 4, 0, 0), []api.Report{at(0, 4, 0, 0)}},
		{[]api.Report{at(0, 3, 0, 0)}, at(11, 1, 0, 0), []api.Report{at(0, 3, 0, 0), at(11, 1, 0, 0)}},
		{[]api.Report{at(11, 3, 0, 0)}, at(0, 1, 0, 0), []api.Report{at(0, 1, 0, 0), at(11, 3, 0, 0)}},
	} {
		if got := report.Merge(c.l, c.r); !slices.Equal(got, c.want) {
			t.Errorf("%d: Merge(%v, %v) = %v, not %v", i, c.l, c.r, got, c.want)
		}
	}
}

// P14.1: a report takes the place of its device's by Inc, Boot and Beat in this order, and whole.
func TestMergeByNewer(t *testing.T) {
	old, below, above := at(4, 1, 1, 1), at(3, 9, 9, 9), at(5, 0, 0, 0)
	for inc := range 3 {
		for boot := range 3 {
			for beat := range 3 {
				r, left := at(4, inc, boot, beat), old
				if newer(r, old) {
					left = r
				}
				if got := report.Merge([]api.Report{below, old, above}, r); !slices.Equal(got, []api.Report{below, left, above}) {
					t.Errorf("%v to %v: %v", r, old, got)
				}
			}
		}
	}
}

// P14.1: all lists of up to five reports of few devices, rising or not, some devices twice: the first that isn't of a lesser device tells.
func TestMergeOfAllLists(t *testing.T) {
	l := [][]api.Report{nil}
	for i := 0; i < len(l); i++ {
		for dev := 1; dev <= 4; dev++ {
			x := at(dev, 2, 2, 2)
			x.Pos = 100 + len(l[i]) // each place's is another one
			if len(l[i]) < 5 {
				l = append(l, append(slices.Clone(l[i]), x))
			}
		}
	}
	for _, x := range l {
		for dev := range 6 {
			for _, r := range []api.Report{at(dev, 2, 2, 1), at(dev, 2, 2, 2), at(dev, 2, 2, 3), at(dev, 1, 3, 3), at(dev, 3, 1, 1)} {
				if got := report.Merge(x, r); !slices.Equal(got, merge(x, r)) {
					t.Fatalf("Merge(%v, %v) = %v, not %v", x, r, got, merge(x, r))
				}
			}
		}
	}
	if len(l) != 1+4+16+64+256+1024 {
		t.Errorf("%d lists", len(l))
	}
}

// P14.1, rule 5: reports that may not be are merged as others are, at the ends of the numbers too.
func TestMergeOfAny(t *testing.T) {
	devs := edges()
	slices.Sort(devs)
	devs = slices.Compact(devs)
	var all []api.Report
	for _, dev := range devs {
		all = append(all, api.Report{Dev: dev, Inc: dev, Beat: -1})
	}
	for _, dev := range devs {
		for _, n := range devs {
			for _, r := range []api.Report{{Dev: dev, Inc: n}, {Dev: dev, Inc: dev, Boot: n}, {Dev: dev, Inc: dev, Beat: n}} {
				for _, l := range [][]api.Report{all, {{Dev: n, Inc: n}}, {{Dev: n}, {Dev: -n, Beat: n}}} {
					if got := report.Merge(l, r); !slices.Equal(got, merge(l, r)) {
						t.Fatalf("Merge(%v, %v) = %v", l, r, got)
					}
				}
			}
		}
	}
}

// P14.1: nothing bounds how many there are.
func TestMergeOfMany(t *testing.T) {
	var l []api.Report
	for dev := range 5000 {
		l = append(l, at(2*dev, 1, 1, 1))
	}
	for _, dev := range []int{-1, 0, 1, 2, 511, 512, 4095, 4096, 9997, 9998, 9999} {
		for _, r := range []api.Report{at(dev, 1, 1, 0), at(dev, 1, 1, 2)} {
			if got := report.Merge(l, r); !slices.Equal(got, merge(l, r)) {
				t.Errorf("of many, %v: %d", r, len(got))
			}
		}
	}
}

// newest is of each of l's devices, rising, the report that none of l is newer than.
func newest(l []api.Report) []api.Report {
	var left []api.Report
	for dev := range devices {
		var best []api.Report
		for _, r := range l {
			if r.Dev == dev && (len(best) == 0 || newer(r, best[0])) {
				best = []api.Report{r}
			}
		}
		left = append(left, best...)
	}
	return left
}

// orders calls each with l in all its orders.
func orders(l []api.Report, n int, each func(l []api.Report)) {
	if n == len(l) {
		each(l)
		return
	}
	for i := n; i < len(l); i++ {
		l[n], l[i] = l[i], l[n]
		orders(l, n+1, each)
		l[n], l[i] = l[i], l[n]
	}
}

// P14.3: all orders of few reports leave the same.
func TestAnyOrder(t *testing.T) {
	for _, l := range [][]api.Report{
		{at(2, 1, 1, 1), at(2, 1, 1, 2), at(2, 1, 2, 0), at(2, 1, 2, 1), at(2, 2, 0, 0), at(2, 2, 0, 1), at(2, 2, 1, 0)},
		{at(2, 2, 1, 1), at(2, 1, 3, 3), at(1, 9, 9, 9), at(3, 1, 1, 1), at(3, 1, 1, 2), at(1, 9, 8, 9), at(2, 2, 1, 1)},
		{at(0, 1, 0, 0), at(11, 1, 0, 0), at(5, 1, 0, 0), at(4, 1, 0, 0), at(6, 1, 0, 0), at(5, 1, 0, 1), at(5, 1, 1, 0)},
	} {
		want := newest(l)
		orders(slices.Clone(l), 0, func(l []api.Report) {
			var got []api.Report
			for _, r := range l {
				got = report.Merge(got, r)
			}
			if !slices.Equal(got, want) {
				t.Fatalf("%v, merged: %v, not %v", l, got, want)
			}
		})
	}
}

// P14.3: drawn reports, lost at some hops, doubled and late: whoever has heard all of them has the newest of each device, and rising.
func TestOnTheWay(t *testing.T) {
	draw := rand.New(rand.NewSource(143))
	for range 3000 {
		var all, a, b []api.Report
		for range draw.Intn(25) {
			all = append(all, at(draw.Intn(devices), draw.Intn(3), draw.Intn(3), draw.Intn(4)))
		}
		for range 3 {
			for _, i := range draw.Perm(len(all)) {
				a = report.Merge(a, all[i])
				if draw.Intn(2) == 0 {
					b = report.Merge(b, all[i])
				}
			}
		}
		for i, r := range b {
			if i > 0 && b[i-1].Dev >= r.Dev {
				t.Fatalf("not rising: %v", b)
			}
			if got := report.Merge(a, r); !slices.Equal(got, a) {
				t.Fatalf("%v has what %v hasn't", b, a)
			}
			a = report.Merge(a, b[len(b)-1-i])
		}
		if !slices.Equal(a, newest(all)) {
			t.Fatalf("%v, merged: %v", all, a)
		}
	}
}

// Rule 3: what is handed in stays as it was, its spare room too, and an answer is new memory, or is never changed.
func TestMemory(t *testing.T) {
	for n := range 6 {
		all := make([]api.Report, 0, n+4)
		for i := range n + 4 {
			all = append(all, at(2*i+1, 2, 2, 2))
		}
		was := slices.Clone(all)
		for dev := range 2*n + 3 {
			for _, r := range []api.Report{at(dev, 1, 9, 9), at(dev, 2, 2, 2), at(dev, 3, 0, 0)} {
				got := report.Merge(all[:n], r)
				if !slices.Equal(all, was) {
					t.Fatalf("Merge of %v has changed what was handed in", r)
				}
				again := report.Merge(got, at(40, 1, 1, 1))
				clear(got[:cap(got)])
				if !slices.Equal(all, was) {
					t.Fatalf("Merge of %v shares its answer", r)
				}
				if !slices.Equal(again, merge(merge(was[:n], r), at(40, 1, 1, 1))) {
					t.Fatalf("Merge of %v: an answer has changed: %v", r, again)
				}
			}
		}
	}
}

// Rule 3: an answer stays, whatever is made of it.
func TestAnswersStay(t *testing.T) {
	a := report.Merge(report.Merge(nil, at(1, 1, 1, 1)), at(5, 1, 1, 1))
	b, c := report.Merge(a, at(7, 1, 1, 1)), report.Merge(a, at(8, 1, 1, 1))
	d, e := report.Merge(a, at(5, 2, 1, 1)), report.Merge(a, at(3, 1, 1, 1))
	f := report.Merge(report.Merge(a, at(5, 1, 1, 0)), at(9, 1, 1, 1))
	for i, x := range []struct{ got, want []api.Report }{
		{a, []api.Report{at(1, 1, 1, 1), at(5, 1, 1, 1)}},
		{b, []api.Report{at(1, 1, 1, 1), at(5, 1, 1, 1), at(7, 1, 1, 1)}},
		{c, []api.Report{at(1, 1, 1, 1), at(5, 1, 1, 1), at(8, 1, 1, 1)}},
		{d, []api.Report{at(1, 1, 1, 1), at(5, 2, 1, 1)}},
		{e, []api.Report{at(1, 1, 1, 1), at(3, 1, 1, 1), at(5, 1, 1, 1)}},
		{f, []api.Report{at(1, 1, 1, 1), at(5, 1, 1, 1), at(9, 1, 1, 1)}},
	} {
		if !slices.Equal(x.got, x.want) {
			t.Errorf("%d has become %v", i, x.got)
		}
	}
}

// Rule 4: a call hangs on its arguments alone, not on what was asked ahead of it.
func TestAgain(t *testing.T) {
	l := reports()
	for i, r := range l {
		other := l[(i+1)%len(l)]
		ask := func(r api.Report) (bool, bool, []api.Report, string) {
			return report.Right(r), report.Newer(r, apart()), report.Merge([]api.Report{apart()}, r), report.Print(r)
		}
		a, b, c, d := ask(r)
		ask(other)
		report.Right(api.Report{})
		w, x, y, z := ask(r)
		if a != w || b != x || !slices.Equal(c, y) || d != z {
			t.Fatalf("%v: other answers", r)
		}
	}
}
