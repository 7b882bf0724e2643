package gift_test

import (
	"math"
	"slices"
	"strings"
	"testing"

	"bargeman/api"
	"bargeman/gift"
)

// The document's numbers, written out: the tests shall not follow one that is changed.
const (
	live      = 1
	joining   = 2
	nodes     = 12
	mostCount = 1 << 40
	mostOps   = 4096
)

// edges is numbers around all bounds, and around those at which a smaller kind of number would wrap.
func edges() []int {
	l := []int{math.MinInt, math.MinInt + 1, math.MaxInt - 1, math.MaxInt}
	for n := -3; n < 15; n++ {
		l = append(l, n)
	}
	for _, n := range []int{1 << 8, 1 << 16, 1 << 31, 1 << 32, mostCount, 1 << 53, 1 << 62} {
		l = append(l, n-1, n, n+1, n+2, -n-1, -n, -n+1)
	}
	return l
}

// of is a gift of dev; its Data tells what it is, so that it isn't taken for another one.
func of(dev, inc, chunk, total int) api.Gift {
	return api.Gift{Dev: dev, Inc: inc, Chunk: chunk, Total: total, Data: strings.Repeat("d", max(dev, 0)%5) + "/" + strings.Repeat("c", max(chunk, 0)%9)}
}

// marked is g with other Data.
func marked(g api.Gift, data string) api.Gift {
	g.Data = data
	return g
}

// newer is Newer as the chapter's words tell it, one after the other.
func newer(a, b api.Gift) bool {
	switch {
	case a.Inc > b.Inc:
		return true
	case a.Inc < b.Inc:
		return false
	case a.Total == 0:
		return true
	case b.Total == 0:
		return false
	default:
		return a.Chunk >= b.Chunk
	}
}

// merge is Merge as the words of the reports' Merge tell it: one by one.
func merge(l []api.Gift, g api.Gift) []api.Gift {
	var told []api.Gift
	for i, x := range l {
		switch {
		case x.Dev < g.Dev:
			told = append(told, x)
		case x.Dev > g.Dev:
			return append(append(told, g), l[i:]...)
		case newer(g, x):
			return append(append(told, g), l[i+1:]...)
		default:
			return l
		}
	}
	return append(told, g)
}

// wanted is Wanted as the chapter's words tell it.
func wanted(g api.Gift, l []api.Report) bool {
	for _, r := range l {
		same := r.Inc == g.Inc
		switch {
		case r.Dev != g.Dev:
		case r.Inc > g.Inc, same && r.Mode == live, same && g.Total != 0 && r.Chunk > g.Chunk:
			return false
		}
	}
	return true
}

// P17.2: newer, by hand: by lives; in one life by a Total of 0, then by chunks.
func TestNewer(t *testing.T) {
	for _, c := range []struct {
		a, b    api.Gift
		is, isB bool // is a newer than b? is b newer than a?
	}{
		{of(3, 2, 0, 4), of(3, 2, 0, 4), true, true}, // as new: the later one counts
		{of(3, 2, 1, 4), of(3, 2, 0, 4), true, false},
		{of(3, 2, 2, 4), of(3, 2, 1, 9), true, false}, // Total alone is of no account
		{of(3, 2, 1, 9), of(3, 2, 1, 4), true, true},
		{of(3, 3, 0, 4), of(3, 2, 3, 4), true, false},
		{of(3, 3, 0, 4), of(3, 2, 0, 0), true, false}, // a next life's chunk, and none for the elder one
		{of(3, 3, 0, 0), of(3, 2, 3, 4), true, false},
		{of(3, 2, 0, 0), of(3, 2, 3, 4), true, false}, // there is none
		{of(3, 2, 0, 0), of(3, 2, 0, 4), true, false},
		{of(3, 2, 0, 0), of(3, 2, 0, 0), true, true},
		{of(3, 2, 1, 0), of(3, 2, 5, 0), true, true}, // where there is none its Chunk is of no account
		{of(3, 2, 0, -1), of(3, 2, 0, 0), false, true},
		{of(3, 2, 0, -1), of(3, 2, 1, 1), false, true},
		{api.Gift{}, api.Gift{}, true, true},
		{api.Gift{Inc: 4}, of(3, 4, 2, 3), true, false},
		{api.Gift{Inc: math.MaxInt, Chunk: math.MinInt, Total: 1}, api.Gift{Inc: math.MinInt}, true, false},
		{api.Gift{Chunk: math.MaxInt, Total: 1}, api.Gift{Chunk: math.MinInt, Total: 1}, true, false},
	} {
		if gift.Newer(c.a, c.b) != c.is || gift.Newer(c.b, c.a) != c.isB {
			t.Errorf("%v and %v: not %v and %v", c.a, c.b, c.is, c.isB)
		}
	}
}

// P17.2: newer by all of Inc, Chunk and Total at once, at the ends of the numbers too; Dev and Data are of no account.
func TestNewerOfAll(t *testing.T) {
	var l []api.Gift
	few := []int{math.MinInt, -1, 0, 1, 2, mostCount, math.MaxInt}
	for _, inc := range few {
		for _, chunk := range few {
			for _, total := range few {
				l = append(l, api.Gift{Inc: inc, Chunk: chunk, Total: total})
			}
		}
	}
	for i, a := range l {
		for j, b := range l {
			want := newer(a, b)
			for k := range 3 {
				a.Dev, b.Dev = (i+k)%3, (j+2*k)%3
				a.Data, b.Data = "ab"[:(i+j+k)%3], "ba"[:k]
				if gift.Newer(a, b) != want {
					t.Fatalf("Newer(%v, %v) isn't %v", a, b, want)
				}
			}
		}
	}
}

// P17.2: Merge, by hand: where a device's gift comes to stand.
func TestMerge(t *testing.T) {
	one, two, none := of(5, 2, 1, 4), of(5, 2, 2, 4), of(5, 2, 0, 0)
	again, next := marked(one, "again"), of(5, 3, 0, 4)
	a, b := of(3, 9, 9, 9), of(7, 9, 9, 9)
	for i, c := range []struct {
		l    []api.Gift
		g    api.Gift
		want []api.Gift
	}{
		{nil, one, []api.Gift{one}},
		{[]api.Gift{}, one, []api.Gift{one}},
		{nil, api.Gift{}, []api.Gift{{}}},
		{[]api.Gift{one}, two, []api.Gift{two}},
		{[]api.Gift{two}, one, []api.Gift{two}},
		{[]api.Gift{one}, again, []api.Gift{again}}, // as new: the later one counts
		{[]api.Gift{again}, one, []api.Gift{one}},
		{[]api.Gift{two}, none, []api.Gift{none}},
		{[]api.Gift{none}, two, []api.Gift{none}},
		{[]api.Gift{none}, next, []api.Gift{next}},
		{[]api.Gift{next}, none, []api.Gift{next}},
		{[]api.Gift{a}, one, []api.Gift{a, one}},
		{[]api.Gift{b}, one, []api.Gift{one, b}},
		{[]api.Gift{a, b}, one, []api.Gift{a, one, b}},
		{[]api.Gift{a, one, b}, two, []api.Gift{a, two, b}},
		{[]api.Gift{a, two, b}, one, []api.Gift{a, two, b}},
		{[]api.Gift{a, one, b}, none, []api.Gift{a, none, b}},
		{[]api.Gift{one, b}, a, []api.Gift{a, one, b}},
		{[]api.Gift{a, one}, b, []api.Gift{a, one, b}},
		{[]api.Gift{one, two}, next, []api.Gift{next, two}}, // the first of its device tells
		{[]api.Gift{b, one}, two, []api.Gift{two, b, one}},  // and so where they don't rise
		{[]api.Gift{of(0, 1, 1, 2)}, of(0, 1, 0, 2), []api.Gift{of(0, 1, 1, 2)}},
		{[]api.Gift{of(11, 1, 1, 2)}, of(0, 1, 0, 2), []api.Gift{of(0, 1, 0, 2), of(11, 1, 1, 2)}},
	} {
		if got := gift.Merge(c.l, c.g); !slices.Equal(got, c.want) {
			t.Errorf("%d: Merge(%v, %v) = %v, not %v", i, c.l, c.g, got, c.want)
		}
	}
}

// P17.2: all lists of up to four gifts of few devices, rising or not, some devices twice: the first that isn't of a lesser device tells.
func TestMergeOfAllLists(t *testing.T) {
	l := [][]api.Gift{nil}
	for i := 0; i < len(l); i++ {
		for dev := 1; dev <= 4; dev++ {
			for _, total := range []int{0, 4} {
				x := marked(of(dev, 2, 2, total), strings.Repeat("x", 10+len(l[i]))) // each place's is another one
				if len(l[i]) < 4 {
					l = append(l, append(slices.Clone(l[i]), x))
				}
			}
		}
	}
	for _, x := range l {
		for dev := range 6 {
			for _, g := range []api.Gift{of(dev, 2, 1, 4), of(dev, 2, 2, 4), of(dev, 2, 3, 4), of(dev, 2, 0, 0), of(dev, 1, 3, 4), of(dev, 3, 0, 4)} {
				if got := gift.Merge(x, g); !slices.Equal(got, merge(x, g)) {
					t.Fatalf("Merge(%v, %v) = %v, not %v", x, g, got, merge(x, g))
				}
			}
		}
	}
	if len(l) != 1+8+64+512+4096 {
		t.Errorf("%d lists", len(l))
	}
}

// P17.2, rule 5: gifts that may not be are merged as others are, at the ends of the numbers too, and among many.
func TestMergeOfAny(t *testing.T) {
	devs := edges()
	slices.Sort(devs)
	devs = slices.Compact(devs)
	var all []api.Gift
	for _, dev := range devs {
		all = append(all, api.Gift{Dev: dev, Inc: dev, Chunk: -1, Total: 7})
	}
	for _, dev := range devs {
		for _, n := range devs {
			for _, g := range []api.Gift{{Dev: dev, Inc: n}, {Dev: dev, Inc: dev, Chunk: n, Total: 1}, {Dev: dev, Inc: dev, Total: n}} {
				for _, l := range [][]api.Gift{all, {{Dev: n, Inc: n, Total: 1}}, {{Dev: n}, {Dev: -n, Chunk: n, Total: n}}} {
					if got := gift.Merge(l, g); !slices.Equal(got, merge(l, g)) {
						t.Fatalf("Merge(%v, %v) = %v", l, g, got)
					}
				}
			}
		}
	}
	var many []api.Gift
	for dev := range 5000 {
		many = append(many, of(2*dev, 1, 1, 2))
	}
	for _, dev := range []int{-1, 0, 1, 2, 511, 512, 4095, 4096, 9997, 9998, 9999} {
		for _, g := range []api.Gift{of(dev, 1, 0, 2), of(dev, 1, 2, 3)} {
			if got := gift.Merge(many, g); !slices.Equal(got, merge(many, g)) {
				t.Errorf("of many, %v: %d", g, len(got))
			}
		}
	}
}

// P17.2: wanted, by hand.
func TestWanted(t *testing.T) {
	g, none := of(3, 4, 2, 5), of(3, 4, 0, 0)
	report := func(inc, mode, chunk int) api.Report {
		return api.Report{Dev: 3, Inc: inc, Mode: mode, Chunk: chunk}
	}
	for i, c := range []struct {
		g    api.Gift
		l    []api.Report
		want bool
	}{
		{g, nil, true},
		{g, []api.Report{}, true},
		{g, []api.Report{report(4, joining, 1)}, true},
		{g, []api.Report{report(4, joining, 2)}, true}, // it is the one that is wanted
		{g, []api.Report{report(4, joining, 3)}, false},
		{g, []api.Report{report(4, live, 0)}, false},
		{g, []api.Report{report(4, live, 2)}, false},
		{g, []api.Report{report(5, joining, 0)}, false},
		{g, []api.Report{report(5, live, 0)}, false},
		{g, []api.Report{report(3, live, 0)}, true}, // an elder life's tell nothing
		{g, []api.Report{report(3, joining, 3)}, true},
		{g, []api.Report{report(4, 0, 2)}, true},
		{g, []api.Report{report(4, 3, 3)}, false},
		{none, []api.Report{report(4, joining, 1)}, true}, // there is none, however many it has
		{none, []api.Report{report(4, live, 0)}, false},
		{none, []api.Report{report(5, joining, 0)}, false},
		{none, []api.Report{report(3, live, 9)}, true},
		{of(3, 4, 0, -1), []api.Report{report(4, joining, 1)}, false}, // a Total that isn't 0
		{g, []api.Report{{Dev: 2, Inc: 5, Mode: live, Chunk: 9}, {Dev: 4, Inc: 4, Mode: live, Chunk: 9}}, true},
		{g, []api.Report{{Dev: 2, Inc: 9}, report(4, joining, 2), {Dev: 4, Inc: 9}}, true},
		{g, []api.Report{{Dev: 2, Inc: 9}, report(4, joining, 3), {Dev: 4, Inc: 9}}, false},
		{g, []api.Report{report(4, joining, 2), report(3, live, 9), report(5, joining, 0)}, false}, // any of its reports
		{g, []api.Report{report(5, joining, 0), report(4, joining, 2)}, false},
		{g, []api.Report{report(4, joining, 0), report(4, joining, 1), report(4, joining, 2)}, true},
		{api.Gift{}, []api.Report{{}}, true},
		{api.Gift{}, []api.Report{{Inc: 1}}, false},
		{api.Gift{Inc: math.MaxInt, Chunk: math.MaxInt, Total: 1}, []api.Report{{Inc: math.MaxInt, Chunk: math.MaxInt}, {Inc: math.MinInt, Mode: live}}, true},
		{api.Gift{Inc: math.MinInt, Chunk: math.MinInt, Total: 1}, []api.Report{{Inc: math.MinInt, Chunk: math.MaxInt}}, false},
	} {
		if gift.Wanted(c.g, c.l) != c.want {
			t.Errorf("%d: Wanted(%v, %v) isn't %v", i, c.g, c.l, c.want)
		}
	}
}

// P17.2: wanted by all few numbers of a gift and of a report at once, and with another report ahead or behind.
func TestWantedOfAll(t *testing.T) {
	few := []int{math.MinInt, 0, 1, 2, math.MaxInt}
	var gifts []api.Gift
	var reports []api.Report
	for _, inc := range few {
		for _, chunk := range few {
			for _, third := range []int{-1, 0, 1, 2, 3} {
				gifts = append(gifts, api.Gift{Dev: 3, Inc: inc, Chunk: chunk, Total: third})
				for dev := 2; dev <= 4; dev++ {
					reports = append(reports, api.Report{Dev: dev, Inc: inc, Mode: third, Chunk: chunk, Boot: dev, Beat: third, Pos: inc, Clock: chunk, Sent: 9})
				}
			}
		}
	}
	yes, no := 0, 0
	for _, g := range gifts {
		for i, r := range reports {
			other := reports[(i*7+5)%len(reports)]
			for _, l := range [][]api.Report{{r}, {r, other}, {other, r}} {
				want := wanted(g, l)
				if gift.Wanted(g, l) != want || gift.Wanted(marked(g, "any"), l) != want {
					t.Fatalf("Wanted(%v, %v) isn't %v", g, l, want)
				}
				if want {
					yes++
				} else {
					no++
				}
			}
		}
	}
	if yes < 10000 || no < 10000 {
		t.Errorf("%d wanted, %d not", yes, no)
	}
}

// P17.2: the last one of many reports counts, too.
func TestWantedOfMany(t *testing.T) {
	l := make([]api.Report, 5000)
	for i := range l {
		l[i] = api.Report{Dev: i % 7, Inc: 4, Mode: joining, Chunk: 2}
	}
	for _, i := range []int{0, 1, 255, 256, 4094, 4998, 4999} {
		g := of(l[i].Dev, 4, 2, 5)
		if !gift.Wanted(g, l) {
			t.Fatalf("%v is wanted by all", g)
		}
		l[i].Mode = live
		if gift.Wanted(g, l) {
			t.Fatalf("%v isn't wanted by the report at %d", g, i)
		}
		l[i].Mode = joining
	}
}

// Rule 3: what is handed in stays as it was, its spare room too, and an answer is never changed.
func TestMemory(t *testing.T) {
	for n := range 6 {
		all := make([]api.Gift, 0, n+4)
		for i := range n + 4 {
			all = append(all, of(2*i+1, 2, 2, 4))
		}
		was := slices.Clone(all)
		for dev := range 2*n + 3 {
			for _, g := range []api.Gift{of(dev, 1, 9, 9), of(dev, 2, 1, 4), of(dev, 2, 2, 4), of(dev, 2, 0, 0), of(dev, 3, 0, 4)} {
				got := gift.Merge(all[:n], g)
				if !slices.Equal(all, was) {
					t.Fatalf("Merge of %v has changed what was handed in", g)
				}
				again, other := gift.Merge(got, of(40, 1, 1, 2)), gift.Merge(got, of(41, 1, 1, 2))
				clear(got[:cap(got)])
				if !slices.Equal(all, was) {
					t.Fatalf("Merge of %v shares its answer", g)
				}
				kept := merge(was[:n:n], g)
				if !slices.Equal(again, merge(kept, of(40, 1, 1, 2))) || !slices.Equal(other, merge(kept, of(41, 1, 1, 2))) {
					t.Fatalf("Merge of %v: an answer has changed: %v, %v", g, again, other)
				}
			}
		}
	}
	l := []api.Report{{Dev: 3, Inc: 4}, {Dev: 1, Inc: 9}, {Dev: 3, Inc: 5}}
	was := slices.Clone(l)
	if gift.Wanted(of(3, 4, 1, 2), l[:1]); !slices.Equal(l, was) {
		t.Error("Wanted has changed its reports")
	}
}
