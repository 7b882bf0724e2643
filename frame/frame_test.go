package frame_test

import (
	"fmt"
	"math"
	"math/rand"
	"slices"
	"strings"
	"testing"

	"bargeman/api"
	"bargeman/frame"
)

// The document's numbers, written out: the tests shall not follow one that is changed.
const (
	mostCount = 1 << 40
	nodes     = 12
	mostOps   = 64 // and so many entries
	mostTold  = 8  // reports, and so many gifts
	mostData  = 256
	mostBytes = 65536
)

// field is a number of an X, and the bounds of one that may be.
type field[X any] struct {
	name        string
	of          func(x *X) *int
	least, most int
}

// numbers is a frame's, in the order of their bytes.
func numbers() []field[api.Frame] {
	return []field[api.Frame]{
		{"From", func(f *api.Frame) *int { return &f.From }, 0, nodes - 1},
		{"To", func(f *api.Frame) *int { return &f.To }, 0, nodes - 1},
		{"Boot", func(f *api.Frame) *int { return &f.Boot }, 0, mostCount},
		{"First", func(f *api.Frame) *int { return &f.First }, 1, mostCount},
		{"Pos", func(f *api.Frame) *int { return &f.Pos }, 0, mostCount},
		{"Start", func(f *api.Frame) *int { return &f.Start }, 1, mostCount},
		{"Ack", func(f *api.Frame) *int { return &f.Ack }, 0, mostCount},
		{"Grant", func(f *api.Frame) *int { return &f.Grant }, 0, mostCount},
		{"S", func(f *api.Frame) *int { return &f.S }, 0, mostCount},
		{"T", func(f *api.Frame) *int { return &f.T }, 0, mostCount},
	}
}

// giftNumbers is a gift's, in the order of their bytes.
func giftNumbers() []field[api.Gift] {
	return []field[api.Gift]{
		{"Dev", func(g *api.Gift) *int { return &g.Dev }, 0, nodes - 1},
		{"Inc", func(g *api.Gift) *int { return &g.Inc }, 1, mostCount},
		{"Chunk", func(g *api.Gift) *int { return &g.Chunk }, 0, mostCount},
		{"Total", func(g *api.Gift) *int { return &g.Total }, 0, mostCount},
	}
}

// at is an operation that may be, another one of each n from 0 to 30.
func at(n int) api.Op {
	return api.Op{At: api.Stamp{C: 300 + n, Dev: n % nodes}, Inc: 1 + n, Num: 7 + 40*n, Node: 2 + n, Up: 63 - n, Name: "op" + string(rune('A'+n))}
}

// told is a report that may be, another one of each n.
func told(n int) api.Report {
	return api.Report{Dev: n % nodes, Inc: 1 + n, Boot: 2 + n, Beat: 100 * n, Mode: 1 + n%2, Pos: 3 + n, Clock: 4 + n, Sent: 5 + n, Chunk: 6 + n}
}

// entryOf is an entry that may be, another one of each n; all kinds take turns.
func entryOf(n int) api.Entry {
	if n%3 == 0 {
		return api.Entry{Kind: api.EntryOp, Op: at(n % 30)}
	}
	return api.Entry{Kind: 1 + n%3, Dev: n % nodes, Inc: 1 + n}
}

// giftOf is a gift that may be, another one of each n.
func giftOf(n int) api.Gift {
	return api.Gift{Dev: n % nodes, Inc: 1 + n, Chunk: 8 + n, Total: 200 + n, Data: strings.Repeat("\x00\xff~", n%80)}
}

// row is n things, by their places.
func row[X any](n int, of func(int) X) []X {
	var l []X
	for i := range n {
		l = append(l, of(i%30))
	}
	return l
}

// least is the frame of the least numbers that may be.
func least() api.Frame { return api.Frame{First: 1, Start: 1} }

// most is the frame of the greatest numbers that may be, and of as many things as there may be, each of the most bytes.
func most() api.Frame {
	const n = mostCount
	name := strings.Repeat("}", 16)
	o := api.Op{At: api.Stamp{C: n, Dev: nodes - 1}, Inc: n, Num: n, Node: 63, Up: 62, Name: name}
	return api.Frame{
		From: nodes - 1, To: nodes - 1, Boot: n, First: n, Pos: n, Start: n, Ack: n, Grant: n, S: n, T: n,
		Ops:     slices.Repeat([]api.Op{o}, mostOps),
		Reports: slices.Repeat([]api.Report{{Dev: nodes - 1, Inc: n, Boot: n, Beat: n, Mode: 2, Pos: n, Clock: n, Sent: n, Chunk: n}}, mostTold),
		Entries: slices.Repeat([]api.Entry{{Kind: api.EntryOp, Op: o}}, mostOps),
		Gifts:   slices.Repeat([]api.Gift{{Dev: nodes - 1, Inc: n, Chunk: n, Total: n, Data: strings.Repeat("\xff", mostData)}}, mostTold),
	}
}

// apart is a frame whose numbers are all different, with some of all things.
func apart() api.Frame {
	return api.Frame{
		From: 3, To: 4, Boot: 5, First: 6, Pos: 700, Start: 8, Ack: 9, Grant: 10, S: 11, T: 12,
		Ops: row(2, at), Reports: row(3, told), Entries: row(5, entryOf), Gifts: row(4, giftOf),
	}
}

// frames is such that may be: of each number the least and the greatest, and of each list some lengths, the greatest one too.
func frames() []api.Frame {
	l := []api.Frame{least(), most(), apart(), {First: 1, Start: 1, Ops: []api.Op{}, Reports: []api.Report{}, Entries: []api.Entry{}, Gifts: []api.Gift{}}}
	for _, x := range numbers() {
		for _, f := range []api.Frame{least(), apart()} {
			for _, n := range []int{x.least, x.least + 1, x.most - 1, x.most} {
				*x.of(&f) = n
				l = append(l, f)
			}
		}
	}
	for _, f := range []api.Frame{least(), apart()} {
		for _, n := range []int{0, 1, 2, 7, 8} {
			a, b, c, d := f, f, f, f
			a.Ops, b.Reports, c.Entries, d.Gifts = row(n, at), row(n, told), row(n, entryOf), row(n, giftOf)
			l = append(l, a, b, c, d)
		}
		for _, n := range []int{9, 63, 64} {
			a, b := f, f
			a.Ops, b.Entries = row(n, at), row(n, entryOf)
			l = append(l, a, b)
		}
	}
	return l
}

// gifts is such that may be: of each number the least and the greatest, and few and many Data.
func gifts() []api.Gift {
	l := append(row(30, giftOf), api.Gift{Inc: 1}, most().Gifts[0])
	for _, x := range giftNumbers() {
		for _, g := range []api.Gift{{Inc: 1}, most().Gifts[0], giftOf(4)} {
			for _, n := range []int{x.least, x.least + 1, x.most - 1, x.most} {
				*x.of(&g) = n
				l = append(l, g)
			}
		}
	}
	for _, n := range []int{1, 63, 64, 127, 128, 255, 256} {
		l = append(l, api.Gift{Inc: 1, Data: strings.Repeat("\x00", n)}, api.Gift{Dev: 2, Inc: 3, Total: 4, Data: strings.Repeat("\xfe", n)})
	}
	return l
}

// wrongGifts is such that may not be, each by one field alone, and the zero one.
func wrongGifts() []api.Gift {
	l := []api.Gift{{}}
	for _, x := range giftNumbers() {
		for _, g := range []api.Gift{{Inc: 1}, most().Gifts[0], giftOf(4)} {
			for _, n := range edges() {
				if n < x.least || n > x.most {
					*x.of(&g) = n
					l = append(l, g)
				}
			}
		}
	}
	for _, n := range []int{257, 258, 512, 4096, mostBytes, mostBytes + 1} {
		l = append(l, api.Gift{Dev: 2, Inc: 3, Total: 4, Data: strings.Repeat("x", n)})
	}
	return l
}

// wrongOps is operations that may not be, each by one field alone, and the zero one.
func wrongOps() []api.Op {
	l := []api.Op{{}}
	for _, wrong := range []func(o *api.Op){
		func(o *api.Op) { o.At.C = 0 },
		func(o *api.Op) { o.At.C = mostCount + 1 },
		func(o *api.Op) { o.At.Dev = -1 },
		func(o *api.Op) { o.At.Dev = nodes },
		func(o *api.Op) { o.Inc = 0 },
		func(o *api.Op) { o.Num = 0 },
		func(o *api.Op) { o.Node = 1 },
		func(o *api.Op) { o.Node = 64 },
		func(o *api.Op) { o.Up = -1 },
		func(o *api.Op) { o.Up = o.Node },
		func(o *api.Op) { o.Name = "" },
		func(o *api.Op) { o.Name = "a/b" },
		func(o *api.Op) { o.Name = strings.Repeat("a", 17) },
	} {
		o := at(3)
		wrong(&o)
		l = append(l, o)
	}
	return l
}

// wrongReports is reports that may not be.
func wrongReports() []api.Report {
	return []api.Report{
		{}, {Dev: -1, Inc: 1, Mode: 1}, {Dev: nodes, Inc: 1, Mode: 1}, {Mode: 1}, {Inc: 1}, {Inc: 1, Mode: 3},
		{Inc: 1, Mode: 2, Boot: -1}, {Inc: 1, Mode: 2, Chunk: mostCount + 1},
	}
}

// wrongEntries is entries that may not be, and whose bytes tell it.
func wrongEntries() []api.Entry {
	l := []api.Entry{{}, {Kind: 4, Dev: 1, Inc: 1}, {Kind: -1, Dev: 1, Inc: 1}, {Kind: 2, Dev: 1}, {Kind: 3, Dev: nodes, Inc: 1}, {Kind: 2, Dev: -1, Inc: 1}}
	for _, o := range wrongOps() {
		l = append(l, api.Entry{Kind: api.EntryOp, Op: o})
	}
	return l
}

// wrongs is frames that may not be, each by one thing alone, whose bytes tell it; and the zero one.
func wrongs() []api.Frame {
	l := []api.Frame{{}}
	for _, x := range numbers() {
		for _, f := range []api.Frame{least(), apart()} {
			for _, n := range edges() {
				if n < x.least || n > x.most {
					*x.of(&f) = n
					l = append(l, f)
				}
			}
		}
	}
	for _, f := range []api.Frame{least(), apart()} {
		for _, n := range []int{9, 10, 64, 65, 99, 300} {
			a, b := f, f
			a.Reports, b.Gifts = row(n, told), row(n, giftOf)
			l = append(l, a, b)
		}
		for _, n := range []int{65, 66, 128, 257, 4096} {
			a, b := f, f
			a.Ops, b.Entries = row(n, at), row(n, entryOf)
			l = append(l, a, b)
		}
		l = append(l, wrongLists(f)...)
	}
	return l
}

// wrongLists is f with one wrong thing in a list, ahead, between or behind others.
func wrongLists(f api.Frame) []api.Frame {
	var l []api.Frame
	for _, n := range []int{1, 3, 8} {
		for _, i := range []int{0, n / 2, n - 1} {
			for _, x := range wrongOps() {
				f := f
				f.Ops = row(n, at)
				f.Ops[i] = x
				l = append(l, f)
			}
			for _, x := range wrongReports() {
				f := f
				f.Reports = row(n, told)
				f.Reports[i] = x
				l = append(l, f)
			}
			for _, x := range wrongEntries() {
				f := f
				f.Entries = row(n, entryOf)
				f.Entries[i] = x
				l = append(l, f)
			}
			for _, x := range []api.Gift{{}, {Dev: -1, Inc: 1}, {Dev: nodes, Inc: 1}, {Inc: mostCount + 1}, {Inc: 1, Chunk: -1}, {Inc: 1, Total: -1}, {Inc: 1, Data: strings.Repeat("x", 257)}} {
				f := f
				f.Gifts = row(n, giftOf)
				f.Gifts[i] = x
				l = append(l, f)
			}
		}
	}
	return l
}

// edges is numbers around all bounds, and around those at which a smaller kind of number would wrap.
func edges() []int {
	l := []int{math.MinInt, math.MinInt + 1, math.MaxInt - 1, math.MaxInt}
	for n := -3; n < 15; n++ {
		l = append(l, n)
	}
	for _, n := range []int{1 << 6, 1 << 8, 1 << 16, 1 << 31, 1 << 32, mostCount, 1 << 53, 1 << 62} {
		l = append(l, n-1, n, n+1, n+2, -n-1, -n, -n+1)
	}
	return l
}

// equal tells whether a and b are the same; a list of nothing may be nil or empty.
func equal(a, b api.Frame) bool {
	for _, x := range numbers() {
		if *x.of(&a) != *x.of(&b) {
			return false
		}
	}
	return slices.Equal(a.Ops, b.Ops) && slices.Equal(a.Reports, b.Reports) && slices.Equal(a.Entries, b.Entries) && slices.Equal(a.Gifts, b.Gifts)
}

// short is the beginning of x as a text: most frames are long.
func short(x any) string { return fmt.Sprintf("%.300s", fmt.Sprint(x)) }

// clone is f, in memory of its own.
func clone(f api.Frame) api.Frame {
	f.Ops, f.Reports, f.Entries, f.Gifts = slices.Clone(f.Ops), slices.Clone(f.Reports), slices.Clone(f.Entries), slices.Clone(f.Gifts)
	return f
}

// P15.1: frames that may be, at the ends of each number and of each list.
func TestRight(t *testing.T) {
	for _, f := range frames() {
		if !frame.Right(f) {
			t.Errorf("%s may be", short(f))
		}
	}
}

// P15.1: each number, each list's length, and each thing in it, alone, outside.
func TestRightOfWrong(t *testing.T) {
	l := wrongs()
	for _, f := range l {
		if frame.Right(f) {
			t.Errorf("%s may not be", short(f))
		}
	}
	if len(l) < 1000 {
		t.Errorf("only %d", len(l))
	}
}

// P15.1: all lengths of each list around its bound.
func TestRightOfLengths(t *testing.T) {
	for n := range 140 {
		a, b, c, d := least(), least(), least(), least()
		a.Ops, b.Reports, c.Entries, d.Gifts = row(n, at), row(n, told), row(n, entryOf), row(n, giftOf)
		if frame.Right(a) != (n <= 64) || frame.Right(c) != (n <= 64) {
			t.Errorf("%d operations, or entries: wrong", n)
		}
		if frame.Right(b) != (n <= 8) || frame.Right(d) != (n <= 8) {
			t.Errorf("%d reports, or gifts: wrong", n)
		}
	}
}

// P15.1: an entry that has what one of its kind hasn't may not be in a frame, though its bytes don't tell it.
func TestRightOfHiddenParts(t *testing.T) {
	for _, e := range []api.Entry{{Kind: 1, Op: at(0), Dev: 1}, {Kind: 1, Op: at(0), Inc: 1}, {Kind: 2, Dev: 1, Inc: 1, Op: at(0)}, {Kind: 3, Dev: 1, Inc: 1, Op: api.Op{Name: "a"}}} {
		for i := range 4 {
			f := apart()
			f.Entries[i] = e
			if frame.Right(f) {
				t.Errorf("%v at %d may not be", e, i)
			}
		}
	}
}

// P15.1: drawn numbers in all fields at once.
func TestRightOfNumbers(t *testing.T) {
	draw := rand.New(rand.NewSource(15))
	l := edges()
	may := 0
	for range 100000 {
		f := apart()
		want := true
		for _, x := range numbers() {
			n := x.least + draw.Intn(x.most-x.least+1)
			if draw.Intn(12) == 0 {
				n = l[draw.Intn(len(l))]
			}
			*x.of(&f) = n
			want = want && x.least <= n && n <= x.most
		}
		if frame.Right(f) != want {
			t.Fatalf("Right(%s) isn't %v", short(f), want)
		}
		if want {
			may++
		}
	}
	if may < 20000 || may > 80000 {
		t.Errorf("%d may be", may)
	}
}

// P15.1: gifts that may be, and such that may not, at the ends of each field.
func TestRightGift(t *testing.T) {
	for _, g := range gifts() {
		if !frame.RightGift(g) {
			t.Errorf("%v may be", g)
		}
	}
	for _, g := range wrongGifts() {
		if frame.RightGift(g) {
			t.Errorf("%s may not be", short(g))
		}
	}
}

// P15.1: all lengths of Data, whichever bytes they are.
func TestRightGiftOfData(t *testing.T) {
	for n := range 600 {
		for _, s := range []string{"a", "\x00", "\xff"} {
			g := api.Gift{Dev: 1, Inc: 1, Data: strings.Repeat(s, n)}
			if frame.RightGift(g) != (n <= 256) {
				t.Errorf("%d bytes of Data: not %v", n, n <= 256)
			}
		}
	}
	if frame.RightGift(api.Gift{Inc: 1, Data: strings.Repeat("é", 129)}) || !frame.RightGift(api.Gift{Inc: 1, Data: strings.Repeat("é", 128)}) {
		t.Error("not its bytes, but its letters are counted")
	}
}

// P15.1: a chunk that isn't below how many there are may be: nothing in a gift rules it out.
func TestRightGiftOfAnyChunk(t *testing.T) {
	for _, g := range []api.Gift{{Inc: 1, Chunk: 5, Total: 5}, {Inc: 1, Chunk: 6, Total: 5}, {Inc: 1, Chunk: 1}, {Inc: 1, Total: 0, Data: "x"}, {Inc: 1, Chunk: mostCount}} {
		f := least()
		f.Gifts = []api.Gift{g, g}
		if !frame.RightGift(g) || !frame.Right(f) {
			t.Errorf("%v may be", g)
		}
	}
}

// Rule 3: what is handed in stays as it was, its spare room too.
func TestMemory(t *testing.T) {
	wide := clone(most())
	f := wide
	f.Ops, f.Reports, f.Entries, f.Gifts = wide.Ops[:2], wide.Reports[:2], wide.Entries[:2], wide.Gifts[:2]
	text := frame.Print(f)
	frame.Right(f)
	g, is := frame.Parse(text)
	if !is || !equal(g, f) || !equal(wide, most()) {
		t.Error("what was handed in has changed")
	}
	clear(g.Ops[:cap(g.Ops)])
	clear(g.Reports[:cap(g.Reports)])
	clear(g.Entries[:cap(g.Entries)])
	clear(g.Gifts[:cap(g.Gifts)])
	if again, _ := frame.Parse(text); !equal(again, f) || !equal(wide, most()) {
		t.Error("an answer is shared")
	}
}

// Rule 4: a call hangs on its arguments alone, not on what was asked ahead of it.
func TestAgain(t *testing.T) {
	l := append(frames(), wrongs()[:50]...)
	for i, f := range l {
		other := l[(i+1)%len(l)]
		right, text := frame.Right(f), frame.Print(f)
		a, isA := frame.Parse(text)
		frame.Right(other)
		frame.Parse(frame.Print(other))
		frame.Parse("")
		b, isB := frame.Parse(text)
		if frame.Right(f) != right || frame.Print(f) != text || isA != isB || !equal(a, b) {
			t.Fatalf("%s: other answers", short(f))
		}
	}
}
