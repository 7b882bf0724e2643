package entry_test

import (
	"encoding/binary"
	"math"
	"math/rand"
	"regexp"
	"slices"
	"strings"
	"testing"

	"bargeman/api"
	"bargeman/code"
	"bargeman/entry"
)

// The document's numbers, written out: the tests shall not follow one that is changed.
const (
	opKind    = 1
	evictKind = 2
	admitKind = 3
	mostCount = 1 << 40
	devices   = 12
	ids       = 64
)

// form is the names, as layer 4's words tell them.
var form = regexp.MustCompile(`\A[!-.0-}]{1,16}\z`)

// rightOp is whether o may be, as layer 5's words tell it.
func rightOp(o api.Op) bool {
	at := 1 <= o.At.C && o.At.C <= mostCount && 0 <= o.At.Dev && o.At.Dev < devices
	counts := 1 <= o.Inc && o.Inc <= mostCount && 1 <= o.Num && o.Num <= mostCount
	nodes := 2 <= o.Node && o.Node < ids && 0 <= o.Up && o.Up < ids && o.Node != o.Up
	return at && counts && nodes && form.MatchString(o.Name)
}

// right is whether e may be, as the chapter's words tell it.
func right(e api.Entry) bool {
	if e.Kind == opKind {
		return rightOp(e.Op) && e == api.Entry{Kind: opKind, Op: e.Op}
	}
	life := 0 <= e.Dev && e.Dev < devices && 1 <= e.Inc && e.Inc <= mostCount
	return (e.Kind == evictKind || e.Kind == admitKind) && life && e == api.Entry{Kind: e.Kind, Dev: e.Dev, Inc: e.Inc}
}

// bytes is e's, as the document tells them, whatever e is.
func bytes(e api.Entry) string {
	l := []int{e.Kind, e.Dev, e.Inc}
	text := ""
	if e.Kind == opKind {
		o := e.Op
		text = o.Name
		l = []int{e.Kind, o.At.C, o.At.Dev, o.Inc, o.Num, o.Node, o.Up, len(text)}
	}
	var b []byte
	for _, n := range l {
		b = binary.AppendVarint(b, int64(n))
	}
	return string(b) + text
}

// tally is Tally as the chapter's words tell it.
func tally(l []api.Count, e api.Entry) []api.Count {
	c := api.Count{Dev: e.Dev, Inc: e.Inc}
	if e.Kind == opKind {
		c = api.Count{Dev: e.Op.At.Dev, Inc: e.Op.Inc, N: e.Op.Num}
	} else if e.Kind != admitKind {
		return slices.Clone(l)
	}
	var told []api.Count
	stands := false
	for _, x := range l {
		lesser := x.Dev < c.Dev
		if !lesser && !stands {
			told = append(told, c)
			stands = true
			if x.Dev == c.Dev {
				continue
			}
		}
		told = append(told, x)
	}
	if !stands {
		told = append(told, c)
	}
	return told
}

// example is an operation: that of layer 5's chapter.
func example() api.Op {
	return api.Op{At: api.Stamp{C: 3, Dev: 1}, Inc: 1, Num: 2, Node: 5, Name: "a"}
}

// by is the entry of an operation of dev's life inc, the num-th one there.
func by(dev, inc, num int) api.Entry {
	return api.Entry{Kind: opKind, Op: api.Op{At: api.Stamp{C: 9, Dev: dev}, Inc: inc, Num: num, Node: 5, Name: "a"}}
}

// evict is the entry by which dev's life inc is over.
func evict(dev, inc int) api.Entry { return api.Entry{Kind: evictKind, Dev: dev, Inc: inc} }

// admit is the entry by which dev's life inc begins.
func admit(dev, inc int) api.Entry { return api.Entry{Kind: admitKind, Dev: dev, Inc: inc} }

// kinds is those that are, and what is none, such too as would be one in a smaller number.
func kinds() []int {
	l := []int{math.MinInt, math.MinInt + 1, math.MinInt + 3, math.MaxInt - 1, math.MaxInt}
	for n := -6; n <= 12; n++ {
		l = append(l, n)
	}
	for _, n := range []int{64, 128, 256, 1 << 16, 1 << 32, mostCount, 1 << 62} {
		l = append(l, n-1, n, n+1, n+2, n+3, -n, -n+1, -n+2, -n+3)
	}
	return l
}

// edges is numbers around all bounds, and around those at which a smaller kind of number would wrap.
func edges() []int {
	l := []int{math.MinInt, math.MinInt + 1, math.MaxInt - 1, math.MaxInt}
	for n := -3; n < 16; n++ {
		l = append(l, n)
	}
	for _, n := range []int{64, 128, 256, 1 << 16, 1 << 31, 1 << 32, mostCount, 1 << 53, 1 << 62} {
		l = append(l, n-1, n, n+1, n+5, -n-1, -n, -n+1, -n+5)
	}
	return l
}

// ops is operations that may be, and such that may not, by each field, and the zero one.
func ops() []api.Op {
	least := api.Op{At: api.Stamp{C: 1}, Inc: 1, Num: 1, Node: 2, Up: 0, Name: "!"}
	most := api.Op{At: api.Stamp{C: mostCount, Dev: devices - 1}, Inc: mostCount, Num: mostCount, Node: ids - 1, Up: ids - 2, Name: strings.Repeat("}", 16)}
	l := []api.Op{{}, example(), least, most}
	for _, of := range opFields() {
		for _, n := range edges() {
			o := example()
			*of(&o) = n
			l = append(l, o)
		}
	}
	for _, s := range []string{"", "b", "a.txt", "0123456789abcdef", "0123456789abcdefg", " ", "a/b", "a~1", "\x00", "\xff", strings.Repeat("x", 300)} {
		o := example()
		o.Name = s
		l = append(l, o)
	}
	return l
}

// opFields is an operation's numbers, in the order in which they stand in the bytes.
func opFields() []func(o *api.Op) *int {
	return []func(o *api.Op) *int{
		func(o *api.Op) *int { return &o.At.C },
		func(o *api.Op) *int { return &o.At.Dev },
		func(o *api.Op) *int { return &o.Inc },
		func(o *api.Op) *int { return &o.Num },
		func(o *api.Op) *int { return &o.Node },
		func(o *api.Op) *int { return &o.Up },
	}
}

// spots is operations of which each has one field alone that isn't zero.
func spots() []api.Op {
	l := []api.Op{{Name: "a"}}
	for _, of := range opFields() {
		for _, n := range []int{1, -1, 5} {
			var o api.Op
			*of(&o) = n
			l = append(l, o)
		}
	}
	return l
}

// entries is such that may be, and such that may not: of any kind, with and without what the other kinds have.
func entries() []api.Entry {
	var l []api.Entry
	for _, kind := range kinds() {
		for _, o := range append(spots(), api.Op{}, example()) {
			for _, life := range [][2]int{{0, 0}, {3, 2}, {0, 1}, {1, 0}, {-1, 1}, {1, -1}, {12, 1}, {11, mostCount}, {11, mostCount + 1}} {
				l = append(l, api.Entry{Kind: kind, Dev: life[0], Inc: life[1], Op: o})
			}
		}
	}
	for _, o := range ops() {
		for _, kind := range []int{opKind, evictKind, admitKind} {
			l = append(l, api.Entry{Kind: kind, Op: o}, api.Entry{Kind: kind, Dev: 1, Inc: 1, Op: o})
		}
	}
	for _, dev := range edges() {
		for _, inc := range edges() {
			l = append(l, api.Entry{Dev: dev, Inc: inc}, evict(dev, inc), admit(dev, inc))
		}
	}
	return l
}

// may is those of entries that may be; it wants that there are some of each kind.
func may(t *testing.T) []api.Entry {
	t.Helper()
	var l []api.Entry
	var times [4]int
	for _, e := range entries() {
		if right(e) {
			l = append(l, e)
			times[e.Kind]++
		}
	}
	if times[0] > 0 || min(times[opKind], times[evictKind], times[admitKind]) < 100 {
		t.Fatalf("so many of each kind: %v", times)
	}
	return l
}

// none wants that s is no entry's bytes.
func none(t *testing.T, what, s string) {
	t.Helper()
	if e, is := entry.Parse(s); is || e != (api.Entry{}) {
		t.Errorf("%s: Parse of %.50q = %v, %v", what, s, e, is)
	}
}

// unread wants that Read finds none at the beginning of s, with other bytes ahead, too.
func unread(t *testing.T, what, s string) {
	t.Helper()
	none(t, what, s)
	for _, ahead := range []string{"", "\x80", bytes(admit(3, 2))} {
		r := &code.Reader{S: ahead + s, At: len(ahead)}
		if e := entry.Read(r); e != (api.Entry{}) || !r.Bad || r.Done() || r.S != ahead+s {
			t.Errorf("%s: Read of %.50q behind %q = %v, Bad %v", what, s, ahead, e, r.Bad)
		}
	}
}

// P11.1: entries by hand: each one that may not be is so by one thing alone.
func TestRightByHand(t *testing.T) {
	for _, e := range []api.Entry{
		{Kind: opKind, Op: example()}, evict(0, 1), evict(11, mostCount), evict(3, 2), admit(0, 1), admit(11, mostCount), admit(3, 2),
	} {
		if !entry.Right(e) {
			t.Errorf("%v may not be", e)
		}
	}
	lame := example()
	lame.Up = lame.Node
	for _, e := range []api.Entry{
		{}, {Kind: opKind}, {Kind: evictKind}, {Kind: admitKind}, {Kind: opKind, Op: lame},
		{Kind: 0, Op: example()}, {Kind: 4, Op: example()}, {Kind: -1, Op: example()},
		{Kind: 0, Dev: 3, Inc: 2}, {Kind: 4, Dev: 3, Inc: 2}, {Kind: -2, Dev: 3, Inc: 2}, {Kind: 9, Dev: 3, Inc: 2},
		{Kind: opKind, Dev: 1, Op: example()}, {Kind: opKind, Inc: 1, Op: example()}, {Kind: opKind, Dev: 1, Inc: 1, Op: example()}, {Kind: opKind, Dev: 1, Inc: 1},
		{Kind: evictKind, Dev: 1, Inc: 1, Op: example()}, {Kind: admitKind, Dev: 1, Inc: 1, Op: example()}, {Kind: evictKind, Op: example()}, {Kind: admitKind, Op: example()},
		evict(-1, 1), evict(12, 1), evict(1, 0), evict(1, -1), evict(1, mostCount+1),
		admit(-1, 1), admit(12, 1), admit(1, 0), admit(1, -1), admit(1, mostCount+1),
	} {
		if entry.Right(e) {
			t.Errorf("%v may be", e)
		}
	}
}

// P11.1: of the kinds with a device's life each field of Op is zero.
func TestRightOfOthersFields(t *testing.T) {
	for _, o := range spots() {
		for _, e := range []api.Entry{evict(3, 2), admit(3, 2)} {
			e.Op = o
			if entry.Right(e) {
				t.Errorf("%v may be", e)
			}
		}
	}
	for _, n := range edges() {
		dev, inc := api.Entry{Kind: opKind, Dev: n, Op: example()}, api.Entry{Kind: opKind, Inc: n, Op: example()}
		if entry.Right(dev) != (n == 0) || entry.Right(inc) != (n == 0) {
			t.Errorf("an operation's Dev %d: %v; Inc: %v", n, entry.Right(dev), entry.Right(inc))
		}
	}
}

// P11.1: Right tells what the words tell, of any kind, at all bounds and beyond.
func TestRight(t *testing.T) {
	for _, e := range entries() {
		if entry.Right(e) != right(e) {
			t.Errorf("Right(%.200v) = %v", e, !right(e))
		}
	}
}

// P11.1: entries whose bytes are known; each field has a place of its own, and what isn't of the kind isn't told.
func TestPrintOfKnown(t *testing.T) {
	far := api.Op{At: api.Stamp{C: 1, Dev: 2}, Inc: 3, Num: 4, Node: 5, Up: 6, Name: "abc"}
	for _, c := range []struct {
		e    api.Entry
		want string
	}{
		{admit(3, 2), "\x06\x06\x04"},
		{evict(3, 2), "\x04\x06\x04"},
		{evict(11, 64), "\x04\x16\x80\x01"},
		{api.Entry{Kind: opKind, Op: example()}, "\x02\x06\x02\x02\x04\x0a\x00\x02a"},
		{api.Entry{Kind: opKind, Op: far}, "\x02\x02\x04\x06\x08\x0a\x0c\x06abc"},
		{api.Entry{Kind: opKind, Dev: 7, Inc: 8, Op: far}, "\x02\x02\x04\x06\x08\x0a\x0c\x06abc"},
		{api.Entry{Kind: opKind}, "\x02\x00\x00\x00\x00\x00\x00\x00"},
		{api.Entry{Kind: evictKind, Dev: 7, Inc: 8, Op: far}, "\x04\x0e\x10"},
		{api.Entry{}, "\x00\x00\x00"},
		{api.Entry{Kind: 4, Dev: -2, Inc: -3, Op: far}, "\x08\x03\x05"},
		{api.Entry{Kind: -1, Dev: 1, Inc: 2}, "\x01\x02\x04"},
	} {
		if got := entry.Print(c.e); got != c.want {
			t.Errorf("Print(%v) = % x, not % x", c.e, got, c.want)
		}
	}
}

// P11.1: Print of any, be it an entry that may be or not.
func TestPrint(t *testing.T) {
	for _, e := range entries() {
		if got := entry.Print(e); got != bytes(e) {
			t.Errorf("Print(%.200v) = %.50q", e, got)
		}
	}
}

// P11.1: Tally by hand: at the beginning, between, at the end, in the place of one, and of what doesn't count.
func TestTallyByHand(t *testing.T) {
	l := []api.Count{{Dev: 1, Inc: 1, N: 4}, {Dev: 3, Inc: 1, N: 9}}
	for _, c := range []struct {
		what string
		l    []api.Count
		e    api.Entry
		want []api.Count
	}{
		{"the first one", nil, by(2, 1, 7), []api.Count{{Dev: 2, Inc: 1, N: 7}}},
		{"the first one, admitted", nil, admit(2, 5), []api.Count{{Dev: 2, Inc: 5}}},
		{"ahead of all", l, by(0, 2, 3), []api.Count{{Dev: 0, Inc: 2, N: 3}, l[0], l[1]}},
		{"ahead of all, admitted", l, admit(0, 2), []api.Count{{Dev: 0, Inc: 2}, l[0], l[1]}},
		{"between", l, by(2, 8, 1), []api.Count{l[0], {Dev: 2, Inc: 8, N: 1}, l[1]}},
		{"between, admitted", l, admit(2, 8), []api.Count{l[0], {Dev: 2, Inc: 8}, l[1]}},
		{"behind all", l, by(4, 1, 1), []api.Count{l[0], l[1], {Dev: 4, Inc: 1, N: 1}}},
		{"behind all, admitted", l, admit(11, 1), []api.Count{l[0], l[1], {Dev: 11, Inc: 1}}},
		{"of the first one", l, by(1, 1, 5), []api.Count{{Dev: 1, Inc: 1, N: 5}, l[1]}},
		{"of the last one", l, by(3, 1, 10), []api.Count{l[0], {Dev: 3, Inc: 1, N: 10}}},
		{"a next life", l, admit(3, 2), []api.Count{l[0], {Dev: 3, Inc: 2}}},
		{"an elder life", l, by(3, 0, 2), []api.Count{l[0], {Dev: 3, Inc: 0, N: 2}}},
		{"a lesser number", l, by(1, 1, 2), []api.Count{{Dev: 1, Inc: 1, N: 2}, l[1]}},
		{"over", l, evict(3, 1), l},
		{"over, of none", l, evict(2, 1), l},
		{"over, of nothing", nil, evict(2, 1), nil},
		{"of no kind", l, api.Entry{Dev: 3, Inc: 5, Op: example()}, l},
		{"of kind 4", l, api.Entry{Kind: 4, Dev: 3, Inc: 5, Op: example()}, l},
		{"of kind -1", l, api.Entry{Kind: -1, Dev: 3, Inc: 5, Op: example()}, l},
	} {
		if got := entry.Tally(c.l, c.e); !slices.Equal(got, c.want) {
			t.Errorf("%s: %v", c.what, got)
		}
	}
}

// P11.1: of lists that don't rise, by hand: it is the first one that isn't of a lesser device by which it goes, and no other.
func TestTallyOfRawLists(t *testing.T) {
	c := func(devs ...int) []api.Count {
		var l []api.Count
		for i, dev := range devs {
			l = append(l, api.Count{Dev: dev, Inc: i + 1, N: 10 * (i + 1)})
		}
		return l
	}
	is := api.Count{Dev: 3, Inc: 7, N: 8}
	for _, x := range []struct{ l, want []api.Count }{
		{c(5, 3), []api.Count{is, c(5)[0], c(5, 3)[1]}},
		{c(3, 3, 3), []api.Count{is, c(3, 3, 3)[1], c(3, 3, 3)[2]}},
		{c(1, 3, 3), []api.Count{c(1)[0], is, c(1, 3, 3)[2]}},
		{c(1, 4, 2, 3), []api.Count{c(1)[0], is, c(1, 4)[1], c(1, 4, 2)[2], c(1, 4, 2, 3)[3]}},
		{c(2, 1, 0), append(c(2, 1, 0), is)},
		{c(2, 0, 9, 1), []api.Count{c(2)[0], c(2, 0)[1], is, c(2, 0, 9)[2], c(2, 0, 9, 1)[3]}},
		{c(math.MinInt, math.MaxInt), []api.Count{c(math.MinInt)[0], is, c(0, math.MaxInt)[1]}},
		{c(math.MaxInt, math.MinInt), []api.Count{is, c(math.MaxInt)[0], c(0, math.MinInt)[1]}},
	} {
		if got := entry.Tally(x.l, by(3, 7, 8)); !slices.Equal(got, x.want) {
			t.Errorf("Tally(%v) = %v, not %v", x.l, got, x.want)
		}
	}
}

// lists is all lists of up to five counts of few devices, rising or not.
func lists() [][]api.Count {
	l := [][]api.Count{nil}
	for from := 0; len(l[len(l)-1]) < 5; {
		to := len(l)
		for _, x := range l[from:to] {
			for dev := -1; dev <= 3; dev++ {
				n := len(x) + 1
				l = append(l, append(slices.Clone(x), api.Count{Dev: dev, Inc: n, N: 10 * n}))
			}
		}
		from = to
	}
	return l
}

// P11.1: Tally of all small lists, with entries of all kinds, of devices among them, between and outside.
func TestTallyOfSmallLists(t *testing.T) {
	var l []api.Entry
	for dev := -2; dev <= 4; dev++ {
		l = append(l, by(dev, 7, 8), admit(dev, 7), evict(dev, 7), api.Entry{Dev: dev, Inc: 7, Op: example()})
	}
	for _, counts := range lists() {
		for _, e := range l {
			if got, want := entry.Tally(counts, e), tally(counts, e); !slices.Equal(got, want) {
				t.Fatalf("Tally(%v, %v) = %v, not %v", counts, e, got, want)
			}
		}
	}
}

// P11.1: Tally with any entry: an operation counts by what it has itself, whether it may be or not.
func TestTallyOfAny(t *testing.T) {
	full := []api.Count{{Dev: math.MinInt, Inc: -1, N: -1}}
	for dev := range devices {
		full = append(full, api.Count{Dev: dev, Inc: dev + 1, N: 3 * dev})
	}
	full = append(full, api.Count{Dev: math.MaxInt, Inc: math.MaxInt, N: math.MinInt})
	for _, counts := range [][]api.Count{nil, {{Dev: 1, Inc: 1, N: 1}}, {{}, {}}, full} {
		for _, e := range entries() {
			if got, want := entry.Tally(counts, e), tally(counts, e); !slices.Equal(got, want) {
				t.Fatalf("Tally(%v, %.200v) = %v, not %v", counts, e, got, want)
			}
		}
	}
}

// P11.1: entries one behind the other: the counts rise by devices, each with what its last one that counts told.
func TestTallyOfStreams(t *testing.T) {
	draw := rand.New(rand.NewSource(11))
	for range 300 {
		var l []api.Count
		last := map[int]api.Count{}
		for i := range 60 {
			dev, inc := draw.Intn(devices), 1+draw.Intn(3)
			switch draw.Intn(3) {
			case 0:
				l = entry.Tally(l, by(dev, inc, i+1))
				last[dev] = api.Count{Dev: dev, Inc: inc, N: i + 1}
			case 1:
				l = entry.Tally(l, admit(dev, inc))
				last[dev] = api.Count{Dev: dev, Inc: inc}
			default:
				l = entry.Tally(l, evict(dev, inc))
			}
			var want []api.Count
			for dev := range devices {
				if c, is := last[dev]; is {
					want = append(want, c)
				}
			}
			if !slices.Equal(l, want) {
				t.Fatalf("%v, not %v", l, want)
			}
		}
	}
}

// P11.2: Read reads an entry wherever it stands, goes on behind it, and leaves the rest.
func TestRead(t *testing.T) {
	for _, e := range may(t) {
		s := bytes(e)
		for _, ahead := range []string{"", "\x80", "ahead"} {
			for _, behind := range []string{"", "\x00", "\xff", "\x02a"} {
				r := &code.Reader{S: ahead + s + behind, At: len(ahead)}
				got := entry.Read(r)
				if got != e || r.Bad || r.At != len(ahead)+len(s) || r.Done() != (behind == "") || r.S != ahead+s+behind {
					t.Fatalf("Read of %v between %q and %q = %v, %#v", e, ahead, behind, got, *r)
				}
			}
		}
	}
}

// P11.2: entries in one row, with other things between, are read in their order.
func TestReadInRow(t *testing.T) {
	l := may(t)
	var row strings.Builder
	for i, e := range l {
		row.WriteString(bytes(e) + code.Num(i))
	}
	r := &code.Reader{S: row.String()}
	for i, e := range l {
		if got, n := entry.Read(r), r.Num(); got != e || n != i {
			t.Fatalf("thing %d: %v, %d, not %v", i, got, n, e)
		}
	}
	if !r.Done() {
		t.Errorf("At %d of %d, Bad %v", r.At, len(r.S), r.Bad)
	}
	if e := entry.Read(r); e != (api.Entry{}) || !r.Bad || r.Done() {
		t.Errorf("behind the end: %v", e)
	}
}

// P11.2: what isn't an entry that may be is none, though its bytes are right ones. What Print doesn't tell doesn't count.
func TestReadOfNone(t *testing.T) {
	times := 0
	for _, e := range entries() {
		told := api.Entry{Kind: e.Kind, Dev: e.Dev, Inc: e.Inc}
		if e.Kind == opKind {
			told = api.Entry{Kind: opKind, Op: e.Op}
		}
		if !right(told) {
			unread(t, "may not be", bytes(e))
			times++
		}
	}
	if times < 5000 {
		t.Errorf("only %d", times)
	}
}

// P11.2: bytes of a kind that is none, with what any other kind has behind it, and more.
func TestReadOfKinds(t *testing.T) {
	for _, kind := range kinds() {
		if opKind <= kind && kind <= admitKind {
			continue
		}
		for _, behind := range []string{"", bytes(admit(3, 2))[1:], bytes(by(1, 1, 1))[1:], strings.Repeat("\x02", 30), strings.Repeat("\x00", 30)} {
			unread(t, "no kind", code.Num(kind)+behind)
		}
	}
	unread(t, "an operation's kind with a life", "\x02\x06\x04")
	none(t, "an eviction's kind with an operation", "\x04"+bytes(by(1, 1, 1))[1:])
	none(t, "an admission's kind with an operation", "\x06"+bytes(by(1, 1, 1))[1:])
}

// P11.2: bytes that are cut are none's, wherever.
func TestReadOfCut(t *testing.T) {
	for _, e := range may(t) {
		s := bytes(e)
		for n := range len(s) {
			unread(t, "cut", s[:n])
		}
	}
}

// P11.2: a number with more bytes than it needs, or too great a one, is none, in each field.
func TestReadOfWrongNumbers(t *testing.T) {
	o := example()
	for _, c := range []struct {
		nums []int
		name string
	}{
		{[]int{opKind, o.At.C, o.At.Dev, o.Inc, o.Num, o.Node, o.Up, len(o.Name)}, o.Name},
		{[]int{evictKind, 3, 2}, ""},
		{[]int{admitKind, 3, 2}, ""},
	} {
		for i, n := range c.nums {
			low := code.Num(n)[0]
			for _, wrong := range []string{
				"",
				string([]byte{low | 128, 0}),
				string([]byte{low | 128, 128, 0}),
				string([]byte{low | 128}) + strings.Repeat("\x80", 8) + "\x02", // 2^64 more
				strings.Repeat("\xff", 12),
			} {
				var s string
				for j, m := range c.nums {
					if j == i {
						s += wrong
					} else {
						s += code.Num(m)
					}
				}
				none(t, "a wrong number", s+c.name)
				if wrong != "" {
					unread(t, "a wrong number", s+c.name)
				}
			}
		}
	}
}

// P11.2: behind Bad, and at places outside, nothing is read, though an entry stands there.
func TestReadBehindBad(t *testing.T) {
	for _, e := range []api.Entry{admit(3, 2), evict(0, 1), by(1, 1, 1)} {
		s := bytes(e)
		r := &code.Reader{S: s, Bad: true}
		if got := entry.Read(r); got != (api.Entry{}) || !r.Bad {
			t.Errorf("behind Bad: %v, %#v", got, *r)
		}
		r = &code.Reader{S: "\x04" + s}
		if r.Bool(); entry.Read(r) != (api.Entry{}) || !r.Bad {
			t.Errorf("behind a wrong bool: %#v", *r)
		}
		r = &code.Reader{S: bytes(evict(12, 1)) + s}
		if entry.Read(r); entry.Read(r) != (api.Entry{}) || r.Num() != 0 || !r.Bad || r.Done() {
			t.Errorf("behind a wrong entry: %#v", *r)
		}
		for _, at := range []int{math.MinInt, -1, len(s), len(s) + 1, math.MaxInt - 1, math.MaxInt} {
			r = &code.Reader{S: s, At: at}
			if got := entry.Read(r); got != (api.Entry{}) || !r.Bad {
				t.Errorf("at %d: %v, %#v", at, got, *r)
			}
		}
	}
}

// P11.2: Parse takes an entry's bytes, whole, and no more.
func TestParse(t *testing.T) {
	for _, e := range may(t) {
		s := bytes(e)
		if got, is := entry.Parse(s); !is || got != e {
			t.Errorf("Parse of %v = %v, %v", e, got, is)
		}
		for _, more := range []string{"\x00", "\x80", "\xff", "a", s} {
			none(t, "too much", s+more)
		}
		none(t, "a zero ahead", "\x00"+s)
		none(t, "a number ahead", "\x01"+s)
	}
	none(t, "nothing", "")
	for n := range 12 {
		none(t, "zeros", strings.Repeat("\x00", n))
		none(t, "no last byte", strings.Repeat("\xff", n))
	}
}

// P11.3: entries go there and back.
func TestThereAndBack(t *testing.T) {
	for _, e := range entries() {
		back, is := entry.Parse(entry.Print(e))
		if entry.Right(e) && (!is || back != e) {
			t.Errorf("%v comes back as %v, %v", e, back, is)
		}
		if is && (!entry.Right(back) || entry.Print(back) != entry.Print(e)) {
			t.Errorf("%.200v comes back as %v", e, back)
		}
	}
}

// P11.3: bytes go there and back: what Parse takes is what Print writes, whichever bytes are changed.
func TestOneWriting(t *testing.T) {
	l := may(t)
	draw := rand.New(rand.NewSource(11))
	taken := 0
	for range 200000 {
		b := []byte(bytes(l[draw.Intn(len(l))]))
		for range 1 + draw.Intn(2) {
			b[draw.Intn(len(b))] = byte(draw.Intn(256))
		}
		e, is := entry.Parse(string(b))
		if !is {
			none(t, "changed", string(b))
			continue
		}
		taken++
		if !right(e) || entry.Print(e) != string(b) {
			t.Fatalf("% x is taken as %v", b, e)
		}
	}
	if taken < 1000 {
		t.Errorf("only %d taken", taken)
	}
}

// P11.3: all bytes of a life of few numbers: those are taken that are one, and no others.
func TestAllShortBytes(t *testing.T) {
	taken := 0
	for i := range 1 << 24 {
		s := string([]byte{byte(i >> 16), byte(i >> 8), byte(i)})
		e, is := entry.Parse(s)
		want := s[0] == 4 || s[0] == 6
		want = want && s[1]%2 == 0 && s[1] < 2*devices && s[2]%2 == 0 && 0 < s[2] && s[2] < 128
		if is != want || is && bytes(e) != s || !is && e != (api.Entry{}) {
			t.Fatalf("Parse of % x = %v, %v", s, e, is)
		}
		if is {
			taken++
		}
	}
	if taken != 2*devices*63 {
		t.Errorf("%d taken", taken)
	}
}

// P1: Tally ends soon, of very many counts, too.
func TestTallyOfVeryMany(t *testing.T) {
	const n = 1 << 20
	l := make([]api.Count, n)
	for i := range l {
		l[i].Dev = 2 * i
	}
	for _, at := range []int{0, 1, n / 2, n - 1} {
		in, ahead := entry.Tally(l, by(2*at, 5, 6)), entry.Tally(l, admit(2*at-1, 5))
		if len(in) != n || in[at] != (api.Count{Dev: 2 * at, Inc: 5, N: 6}) {
			t.Errorf("in the place of %d: %d counts, %v there", at, len(in), in[at])
		}
		if len(ahead) != n+1 || ahead[at] != (api.Count{Dev: 2*at - 1, Inc: 5}) || ahead[at+1] != l[at] {
			t.Errorf("ahead of %d: %d counts, %v there", at, len(ahead), ahead[at])
		}
	}
}

// Rule 3: what is handed in stays as it was, its spare room too, and an answer is new memory.
func TestMemory(t *testing.T) {
	mark := api.Count{Dev: 77, Inc: 77, N: 77}
	for _, counts := range lists()[:800] {
		all := append(slices.Clone(counts), mark, mark, mark)
		was := slices.Clone(all)
		l := all[:len(counts)]
		for dev := -2; dev <= 4; dev++ {
			for _, e := range []api.Entry{by(dev, 7, 8), admit(dev, 7), evict(dev, 7), {Dev: dev, Inc: 7}} {
				got := entry.Tally(l, e)
				if !slices.Equal(all, was) {
					t.Fatalf("Tally with %v has changed %v to %v", e, was, all)
				}
				clear(got[:cap(got)])
				if !slices.Equal(all, was) {
					t.Fatalf("Tally(%v, %v) shares its answer", was, e)
				}
			}
		}
	}
}

// Rule 3: an answer stays, whatever is made of it.
func TestAnswersStay(t *testing.T) {
	a := entry.Tally(nil, by(5, 1, 1))
	b := entry.Tally(a, by(7, 1, 1))
	c := entry.Tally(b, by(9, 1, 1))
	d := entry.Tally(b, by(8, 1, 1))
	e := entry.Tally(b, evict(7, 1))
	e = append(e, api.Count{Dev: 11})
	f := entry.Tally(b, by(7, 2, 2))
	five, seven := api.Count{Dev: 5, Inc: 1, N: 1}, api.Count{Dev: 7, Inc: 1, N: 1}
	for i, x := range [][2][]api.Count{
		{a, {five}}, {b, {five, seven}}, {c, {five, seven, {Dev: 9, Inc: 1, N: 1}}}, {d, {five, seven, {Dev: 8, Inc: 1, N: 1}}},
		{e, {five, seven, {Dev: 11}}}, {f, {five, {Dev: 7, Inc: 2, N: 2}}},
	} {
		if !slices.Equal(x[0], x[1]) {
			t.Errorf("%d has become %v", i, x[0])
		}
	}
}

// Rule 4: a call hangs on its arguments alone, not on what was asked ahead of it.
func TestAgain(t *testing.T) {
	l := entries()
	counts := []api.Count{{Dev: 1, Inc: 1, N: 1}, {Dev: 5, Inc: 2, N: 2}}
	for i, e := range l {
		is, s, told := entry.Right(e), entry.Print(e), entry.Tally(counts, e)
		back, was := entry.Parse(s)
		next := l[(i+1)%len(l)]
		entry.Right(next)
		entry.Tally(told, next)
		entry.Parse(entry.Print(next))
		again, wasAgain := entry.Parse(s)
		if entry.Right(e) != is || entry.Print(e) != s || !slices.Equal(entry.Tally(counts, e), told) || again != back || wasAgain != was {
			t.Fatalf("%.200v: other answers behind %.200v", e, next)
		}
	}
}
