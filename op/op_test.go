package op_test

import (
	"encoding/binary"
	"math"
	"math/rand"
	"regexp"
	"strings"
	"testing"

	"bargeman/api"
	"bargeman/code"
	"bargeman/op"
)

// The document's limits, written out: the tests shall not follow a limit that is changed.
const (
	mostCount = 1 << 40
	devices   = 12
	ids       = 64
	mostBytes = 16
)

// form is the names, as layer 4's words tell them.
var form = regexp.MustCompile(`\A[!-.0-}]{1,16}\z`)

// slow is whether o may be, as the document tells it.
func slow(o api.Op) bool {
	at := 1 <= o.At.C && o.At.C <= mostCount && 0 <= o.At.Dev && o.At.Dev < devices
	counts := 1 <= o.Inc && o.Inc <= mostCount && 1 <= o.Num && o.Num <= mostCount
	nodes := 2 <= o.Node && o.Node < ids && 0 <= o.Up && o.Up < ids && o.Node != o.Up
	return at && counts && nodes && form.MatchString(o.Name)
}

// bytes is o's, as the document tells them, whatever o is.
func bytes(o api.Op) string {
	var b []byte
	for _, n := range []int{o.At.C, o.At.Dev, o.Inc, o.Num, o.Node, o.Up, len(o.Name)} {
		b = binary.AppendVarint(b, int64(n))
	}
	return string(b) + o.Name
}

// example is the chapter's.
func example() api.Op {
	return api.Op{At: api.Stamp{C: 3, Dev: 1}, Inc: 1, Num: 2, Node: 5, Name: "a"}
}

// field is one of an operation's numbers, with its bounds.
type field struct {
	name     string
	of       func(o *api.Op) *int
	from, to int
}

// fields is all of them, in the order in which they stand in the bytes.
func fields() []field {
	return []field{
		{"C", func(o *api.Op) *int { return &o.At.C }, 1, mostCount},
		{"Dev", func(o *api.Op) *int { return &o.At.Dev }, 0, devices - 1},
		{"Inc", func(o *api.Op) *int { return &o.Inc }, 1, mostCount},
		{"Num", func(o *api.Op) *int { return &o.Num }, 1, mostCount},
		{"Node", func(o *api.Op) *int { return &o.Node }, 2, ids - 1},
		{"Up", func(o *api.Op) *int { return &o.Up }, 0, ids - 1},
	}
}

// edges is numbers around all bounds, and around those at which a smaller kind of number would wrap.
func edges() []int {
	l := []int{math.MinInt, math.MinInt + 1, math.MaxInt - 1, math.MaxInt}
	for n := -3; n < 70; n++ {
		l = append(l, n)
	}
	for _, n := range []int{127, 128, 255, 256, 257, 258, 1 << 16, 1 << 31, 1 << 32, mostCount, 1 << 53, 1 << 62} {
		l = append(l, n-1, n, n+1, n+5, -n-1, -n, -n+1, -n+5)
	}
	return l
}

// names is such, of each length.
func names() []string {
	l := []string{"a", "A", "0", "12", "!", "}", ".", "a.txt", "a|b"}
	for n := 1; n <= mostBytes; n++ {
		l = append(l, strings.Repeat("x", n), "0123456789abcdef"[:n])
	}
	return l
}

// noNames is what no name is.
func noNames() []string {
	l := []string{"", " ", "a b", "/", "a/b", "~", "a~1", "a~12", "é", "\x00", "a\n", "\x7f", "\xff"}
	for _, n := range []int{mostBytes + 1, mostBytes + 2, 63, 64, 255, 256, 257, 272, 1 << 16, 1<<16 + 1} {
		l = append(l, strings.Repeat("x", n))
	}
	return l
}

// changed is o with one number, or its name, made another one: the edges of each, and what is out of them.
func changed(o api.Op) []api.Op {
	var l []api.Op
	for _, f := range fields() {
		for _, n := range append(edges(), f.from-1, f.from, f.to, f.to+1) {
			x := o
			*f.of(&x) = n
			l = append(l, x)
		}
	}
	for _, s := range append(names(), noNames()...) {
		x := o
		x.Name = s
		l = append(l, x)
	}
	return l
}

// ops is operations that may be, and such that may not: by each field alone, by two of them, and all that few numbers make.
func ops() []api.Op {
	l := []api.Op{{}, {Name: "a"}, {At: api.Stamp{C: 1}, Inc: 1, Num: 1, Node: 2, Name: "a"}}
	least := api.Op{At: api.Stamp{C: 1}, Inc: 1, Num: 1, Node: 2, Up: 0, Name: "!"}
	most := api.Op{At: api.Stamp{C: mostCount, Dev: devices - 1}, Inc: mostCount, Num: mostCount, Node: ids - 1, Up: ids - 2, Name: strings.Repeat("}", mostBytes)}
	for _, o := range []api.Op{example(), least, most} {
		l = append(l, o)
		l = append(l, changed(o)...)
	}
	for node := -1; node <= ids+1; node++ {
		for up := -1; up <= ids+1; up++ {
			o := example()
			o.Node, o.Up = node, up
			l = append(l, o)
		}
	}
	return append(l, few()...)
}

// few is what numbers at the bounds make, each with each.
func few() []api.Op {
	var l []api.Op
	for _, c := range []int{0, 1, mostCount, mostCount + 1} {
		for _, dev := range []int{-1, 0, devices - 1, devices} {
			for _, inc := range []int{0, 1, mostCount, mostCount + 1} {
				for _, num := range []int{0, 1, mostCount, mostCount + 1} {
					for _, move := range [][2]int{{1, 0}, {2, -1}, {2, 0}, {2, 1}, {2, 2}, {2, 63}, {63, 2}, {63, 64}, {64, 63}} {
						for _, s := range []string{"", "a", "~"} {
							l = append(l, api.Op{At: api.Stamp{C: c, Dev: dev}, Inc: inc, Num: num, Node: move[0], Up: move[1], Name: s})
						}
					}
				}
			}
		}
	}
	return l
}

// may is those of ops that may be; it wants that there are some.
func may(t *testing.T) []api.Op {
	t.Helper()
	var l []api.Op
	for _, o := range ops() {
		if slow(o) {
			l = append(l, o)
		}
	}
	if len(l) < 1000 {
		t.Fatalf("only %d operations that may be", len(l))
	}
	return l
}

// none wants that s is no operation's bytes.
func none(t *testing.T, what, s string) {
	t.Helper()
	if o, is := op.Parse(s); is || o != (api.Op{}) {
		t.Errorf("%s: Parse of %.50q = %v, %v", what, s, o, is)
	}
}

// unread wants that Read finds none at the beginning of s, with other bytes ahead and behind, too.
func unread(t *testing.T, what, s string) {
	t.Helper()
	none(t, what, s)
	for _, ahead := range []string{"", "\x80", bytes(example())} {
		r := &code.Reader{S: ahead + s, At: len(ahead)}
		if o := op.Read(r); o != (api.Op{}) || !r.Bad || r.Done() || r.S != ahead+s {
			t.Errorf("%s: Read of %.50q behind %q = %v, Bad %v", what, s, ahead, o, r.Bad)
		}
	}
}

// P5.1: the trash is node 1.
func TestTrash(t *testing.T) {
	if op.Trash != 1 {
		t.Errorf("Trash is %d", op.Trash)
	}
}

// P5.1: each number may be from its lowest to its highest, whatever lies between; and none below or beyond.
func TestRightByFields(t *testing.T) {
	for _, f := range fields() {
		for _, n := range append(edges(), f.from-1, f.from, f.from+1, f.to-1, f.to, f.to+1) {
			o := example()
			*f.of(&o) = n
			want := f.from <= n && n <= f.to && o.Node != o.Up
			if op.Right(o) != want {
				t.Errorf("%s %d: Right = %v", f.name, n, !want)
			}
		}
	}
}

// P5.1: a node is moved to below any other one, the trash and the tree's root too; but not to below itself.
func TestRightByNodes(t *testing.T) {
	for node := -2; node <= ids+2; node++ {
		for up := -2; up <= ids+2; up++ {
			o := example()
			o.Node, o.Up = node, up
			want := 2 <= node && node < ids && 0 <= up && up < ids && node != up
			if op.Right(o) != want {
				t.Errorf("%d below %d: Right = %v", node, up, !want)
			}
		}
	}
}

// P5.1: its name is a name, and no twin.
func TestRightByName(t *testing.T) {
	o := example()
	for _, o.Name = range names() {
		if !op.Right(o) {
			t.Errorf("%q: not right", o.Name)
		}
	}
	for _, o.Name = range noNames() {
		if op.Right(o) {
			t.Errorf("%.30q: right", o.Name)
		}
	}
	for b := range 256 {
		o.Name = string([]byte{'x', byte(b)})
		if op.Right(o) != form.MatchString(o.Name) {
			t.Errorf("%q: Right = %v", o.Name, op.Right(o))
		}
	}
}

// P5.1: Right tells what the words tell, wherever several fields are wrong, and wherever none is.
func TestRight(t *testing.T) {
	if op.Right(api.Op{}) || !op.Right(example()) {
		t.Error("nothing is right, or the example isn't")
	}
	for _, o := range ops() {
		if op.Right(o) != slow(o) {
			t.Errorf("Right(%v) = %v", o, !slow(o))
		}
	}
}

// P5.1: operations whose bytes are known; each field has a place of its own.
func TestPrintOfKnown(t *testing.T) {
	cases := []struct {
		o    api.Op
		want string
	}{
		{example(), "\x06\x02\x02\x04\x0a\x00\x02a"},
		{api.Op{At: api.Stamp{C: 1, Dev: 2}, Inc: 3, Num: 4, Node: 5, Up: 6, Name: "abc"}, "\x02\x04\x06\x08\x0a\x0c\x06abc"},
		{api.Op{At: api.Stamp{C: 128, Dev: 11}, Inc: 64, Num: 65, Node: 63, Up: 62, Name: "!"}, "\x80\x02\x16\x80\x01\x82\x01\x7e\x7c\x02!"},
		{api.Op{}, "\x00\x00\x00\x00\x00\x00\x00"},
		{api.Op{At: api.Stamp{C: -1, Dev: -2}, Inc: -3, Num: -4, Node: -5, Up: -6, Name: "\xff/"}, "\x01\x03\x05\x07\x09\x0b\x04\xff/"},
	}
	for _, c := range cases {
		if got := op.Print(c.o); got != c.want {
			t.Errorf("Print(%v) = % x, not % x", c.o, got, c.want)
		}
	}
}

// P5.1: Print of any, be it an operation that may be or not.
func TestPrint(t *testing.T) {
	for _, o := range ops() {
		if got := op.Print(o); got != bytes(o) {
			t.Errorf("Print(%.100v) = %.50q", o, got)
		}
	}
}

// P5.1: Make's operation is that of the place, at the moment behind the counter.
func TestMake(t *testing.T) {
	cases := []struct {
		c, dev, inc, num int
		p                api.Place
	}{
		{2, 1, 1, 2, api.Place{Node: 5, Name: "a"}},
		{0, 0, 1, 1, api.Place{Node: 2, Up: 1, Name: "!"}},
		{7, 11, 8, 9, api.Place{Node: 63, Up: 62, Name: "0123456789abcdef"}},
		{mostCount - 1, 11, mostCount, mostCount, api.Place{Node: 62, Up: 63, Name: "}"}},
	}
	for _, c := range cases {
		want := api.Op{At: api.Stamp{C: c.c + 1, Dev: c.dev}, Inc: c.inc, Num: c.num, Node: c.p.Node, Up: c.p.Up, Name: c.p.Name}
		if got, is := op.Make(c.c, c.dev, c.inc, c.num, c.p); !is || got != want {
			t.Errorf("Make(%v) = %v, %v", c, got, is)
		}
	}
}

// P5.1: Make answers an operation just where it may be; beside false, zero.
func TestMakeOfAny(t *testing.T) {
	for _, o := range ops() {
		var want api.Op
		is := slow(o)
		if is {
			want = o
		}
		got, made := op.Make(o.At.C-1, o.At.Dev, o.Inc, o.Num, api.Place{Node: o.Node, Up: o.Up, Name: o.Name})
		if made != is || got != want {
			t.Errorf("Make of %.100v = %.100v, %v", o, got, made)
		}
	}
}

// P5.1: Make of counters at their ends, and outside.
func TestMakeOfCounters(t *testing.T) {
	p := api.Place{Node: 5, Name: "a"}
	for _, c := range edges() {
		o, is := op.Make(c, 1, 1, 2, p)
		if is != (0 <= c && c < mostCount) || is && o.At != (api.Stamp{C: c + 1, Dev: 1}) || !is && o != (api.Op{}) {
			t.Errorf("Make at %d = %v, %v", c, o, is)
		}
	}
}

// P5.2: Read reads an operation wherever it stands, goes on behind it, and leaves the rest.
func TestRead(t *testing.T) {
	for _, o := range may(t) {
		s := bytes(o)
		for _, ahead := range []string{"", "\x80", "ahead"} {
			for _, behind := range []string{"", "\x00", "\xff", "\x02a"} {
				r := &code.Reader{S: ahead + s + behind, At: len(ahead)}
				got := op.Read(r)
				if got != o || r.Bad || r.At != len(ahead)+len(s) || r.Done() != (behind == "") || r.S != ahead+s+behind {
					t.Fatalf("Read of %v between %q and %q = %v, %#v", o, ahead, behind, got, *r)
				}
			}
		}
	}
}

// P5.2: operations in one row, with other things between, are read in their order.
func TestReadInRow(t *testing.T) {
	l := may(t)
	var row strings.Builder
	for i, o := range l {
		row.WriteString(bytes(o) + code.Num(i))
	}
	r := &code.Reader{S: row.String()}
	for i, o := range l {
		if got, n := op.Read(r), r.Num(); got != o || n != i {
			t.Fatalf("thing %d: %v, %d, not %v", i, got, n, o)
		}
	}
	if !r.Done() {
		t.Errorf("At %d of %d, Bad %v", r.At, len(r.S), r.Bad)
	}
	if o := op.Read(r); o != (api.Op{}) || !r.Bad || r.Done() {
		t.Errorf("behind the end: %v", o)
	}
}

// P5.2: what isn't an operation that may be is none, though its bytes are right ones.
func TestReadOfNone(t *testing.T) {
	for _, o := range ops() {
		if !slow(o) {
			unread(t, "may not be", bytes(o))
		}
	}
}

// P5.2: bytes that are cut are none's, wherever; nor are they with what fills them up.
func TestReadOfCut(t *testing.T) {
	for _, o := range may(t)[:300] {
		s := bytes(o)
		for n := range len(s) {
			unread(t, "cut", s[:n])
		}
		unread(t, "a name that is cut", s[:len(s)-1]+"\x00")
	}
}

// P5.2: a number with more bytes than it needs, or too great a one, is none, in each field.
func TestReadOfWrongNumbers(t *testing.T) {
	o := example()
	nums := []int{o.At.C, o.At.Dev, o.Inc, o.Num, o.Node, o.Up, len(o.Name)}
	for i, n := range nums {
		low := code.Num(n)[0]
		for _, wrong := range []string{
			string([]byte{low | 128, 0}),
			string([]byte{low | 128, 128, 0}),
			strings.Repeat("\x80", 9) + "\x02",
			string([]byte{low | 128}) + strings.Repeat("\x80", 8) + "\x02", // 2^64 more
			strings.Repeat("\xff", 12),
		} {
			var s string
			for j, m := range nums {
				if j == i {
					s += wrong
				} else {
					s += code.Num(m)
				}
			}
			unread(t, "a wrong number", s+o.Name)
		}
	}
}

// P5.2: a name's length that no name has, whatever stands behind.
func TestReadOfWrongLengths(t *testing.T) {
	s := bytes(example())
	ahead := s[:len(s)-2]
	for _, n := range []int{math.MinInt, -1, 0, 17, 63, 64, 256, 257, 1 << 32, 1<<32 + 1, math.MaxInt} {
		for _, behind := range []string{"", "a", strings.Repeat("x", 16), strings.Repeat("x", 17), strings.Repeat("x", 300)} {
			unread(t, "a wrong length", ahead+code.Num(n)+behind)
		}
	}
	for n := 1; n <= mostBytes; n++ {
		unread(t, "too few bytes", ahead+code.Num(n)+strings.Repeat("x", n-1))
	}
}

// P5.2: behind Bad, and at places outside, nothing is read, though an operation stands there.
func TestReadBehindBad(t *testing.T) {
	s := bytes(example())
	r := &code.Reader{S: s, Bad: true}
	if o := op.Read(r); o != (api.Op{}) || !r.Bad {
		t.Errorf("behind Bad: %v, %#v", o, *r)
	}
	r = &code.Reader{S: "\x04" + s}
	if r.Bool(); op.Read(r) != (api.Op{}) || !r.Bad {
		t.Errorf("behind a wrong bool: %#v", *r)
	}
	wrong := example()
	wrong.Node = 1
	r = &code.Reader{S: bytes(wrong) + s}
	if op.Read(r); op.Read(r) != (api.Op{}) || r.Num() != 0 || !r.Bad || r.Done() {
		t.Errorf("behind a wrong operation: %#v", *r)
	}
	for _, at := range []int{math.MinInt, -1, len(s), len(s) + 1, math.MaxInt - 1, math.MaxInt} {
		r = &code.Reader{S: s, At: at}
		if o := op.Read(r); o != (api.Op{}) || !r.Bad {
			t.Errorf("at %d: %v, %#v", at, o, *r)
		}
	}
}

// P5.2: Parse takes an operation's bytes, whole, and no more.
func TestParse(t *testing.T) {
	for _, o := range may(t) {
		if got, is := op.Parse(bytes(o)); !is || got != o {
			t.Errorf("Parse of %v = %v, %v", o, got, is)
		}
	}
	for _, o := range may(t)[:300] {
		s := bytes(o)
		for _, more := range []string{"\x00", "\x80", "\xff", "a", s} {
			none(t, "too much", s+more)
		}
		none(t, "a zero ahead", "\x00"+s)
		none(t, "a number ahead", "\x01"+s)
	}
	none(t, "nothing", "")
	none(t, "zeros", strings.Repeat("\x00", 8))
}

// P5.3: operations go there and back; and by Make, too.
func TestThereAndBack(t *testing.T) {
	for _, o := range may(t) {
		back, is := op.Parse(op.Print(o))
		made, also := op.Make(o.At.C-1, o.At.Dev, o.Inc, o.Num, api.Place{Node: o.Node, Up: o.Up, Name: o.Name})
		if !is || !also || back != o || made != o {
			t.Errorf("%v comes back as %v, %v, and is made as %v, %v", o, back, is, made, also)
		}
	}
}

// P5.3: bytes go there and back: what Parse takes is what Print writes, whichever bytes are changed.
func TestOneWriting(t *testing.T) {
	l := may(t)
	draw := rand.New(rand.NewSource(5))
	taken := 0
	for range 200000 {
		b := []byte(bytes(l[draw.Intn(len(l))]))
		for range 1 + draw.Intn(2) {
			b[draw.Intn(len(b))] = byte(draw.Intn(256))
		}
		o, is := op.Parse(string(b))
		if !is {
			none(t, "changed", string(b))
			continue
		}
		taken++
		if !slow(o) || op.Print(o) != string(b) {
			t.Fatalf("% x is taken as %v", b, o)
		}
	}
	if taken < 1000 {
		t.Errorf("only %d taken", taken)
	}
}

// P5.3: two that differ, whether they may be or not, have other bytes.
func TestPrintsAreTwo(t *testing.T) {
	seen := map[string]api.Op{}
	for _, o := range ops() {
		s := op.Print(o)
		if x, is := seen[s]; is && x != o {
			t.Errorf("%.100v and %.100v have the same bytes", o, x)
		}
		seen[s] = o
	}
}
