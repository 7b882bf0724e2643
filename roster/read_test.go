package roster_test

import (
	"encoding/binary"
	"math"
	"math/rand"
	"slices"
	"strings"
	"testing"

	"bargeman/api"
	"bargeman/code"
	"bargeman/roster"
)

// nums is the numbers' bytes, one behind the other.
func nums(l ...int) string {
	var b []byte
	for _, n := range l {
		b = binary.AppendVarint(b, int64(n))
	}
	return string(b)
}

// one is a member's bytes, as the document tells them, whatever it is.
func one(m api.Member) string {
	in, r := 0, m.Report
	if m.In {
		in = 1
	}
	return nums(m.Dev, m.Inc, in, m.N, m.Last, m.Out) +
		nums(r.Dev, r.Inc, r.Boot, r.Beat, r.Mode, r.Pos, r.Clock, r.Sent, r.Chunk) + nums(len(m.Frozen)) + m.Frozen
}

// bytes is a list's, as the document tells them, whatever it is.
func bytes(l []api.Member) string {
	var b strings.Builder
	b.WriteString(nums(len(l)))
	for _, m := range l {
		b.WriteString(one(m))
	}
	return b.String()
}

// unread wants that Read finds no list at the beginning of s, with other bytes ahead, too.
func unread(t *testing.T, what, s string) {
	t.Helper()
	for _, ahead := range []string{"", "\x80", bytes(row(apart, 3))} {
		r := &code.Reader{S: ahead + s, At: len(ahead)}
		if got := roster.Read(r); len(got) > 0 || !r.Bad || r.Done() || r.S != ahead+s {
			t.Fatalf("%s: Read of %.80q behind %q = %v, Bad %v", what, s, ahead, short(got), r.Bad)
		}
	}
}

// P16.1: lists whose bytes are known; each field has a place of its own.
func TestPrintOfKnown(t *testing.T) {
	report := api.Report{Dev: 7, Inc: 8, Boot: 9, Beat: 10, Mode: 11, Pos: 12, Clock: 13, Sent: 14, Chunk: 15}
	a := api.Member{Dev: 2, Inc: 3, In: true, N: 4, Last: 5, Out: 6, Report: report, Frozen: "xyz"}
	const aBytes = "\x04\x06\x02\x08\x0a\x0c\x0e\x10\x12\x14\x16\x18\x1a\x1c\x1e\x06xyz"
	below := api.Report{Dev: -6, Inc: -7, Boot: -8, Beat: -9, Mode: -10, Pos: -11, Clock: -12, Sent: -13, Chunk: -14}
	b := api.Member{Dev: -1, Inc: -2, N: -3, Last: -4, Out: -5, Report: below, Frozen: "\xff"}
	const bBytes = "\x01\x03\x00\x05\x07\x09\x0b\x0d\x0f\x11\x13\x15\x17\x19\x1b\x02\xff"
	const big = "\x80\x80\x80\x80\x80\x40"
	for _, c := range []struct {
		l    []api.Member
		want string
	}{
		{nil, "\x00"},
		{[]api.Member{}, "\x00"},
		{make([]api.Member, 1), "\x02" + strings.Repeat("\x00", 16)},
		{roster.New([]int{2, 3}), "\x04" + "\x04\x02\x02\x00\x00\x00\x04\x02\x00\x00\x02\x00\x00\x00\x00\x00" + "\x06\x02\x02\x00\x00\x00\x06\x02\x00\x00\x02\x00\x00\x00\x00\x00"},
		{row(least, 0), "\x02\x00\x02\x00\x00\x00\x00\x00\x02\x00\x00\x02\x00\x00\x00\x00\x00"},
		{[]api.Member{a}, "\x02" + aBytes},
		{[]api.Member{b}, "\x02" + bBytes},
		{[]api.Member{a, b, a}, "\x06" + aBytes + bBytes + aBytes},
		{row(most, 11), "\x02\x16" + big + "\x02" + big + big + big + "\x16" + big + big + big + "\x04" + big + big + big + big + "\x80\x80\x08" + strings.Repeat("\xff", mostBytes)},
	} {
		if got := roster.Print(c.l); got != c.want {
			t.Errorf("Print(%v) = %.200q, not %.200q", short(c.l), got, c.want)
		}
	}
}

// P16.1: Print of any, be it a list that may be or not.
func TestPrint(t *testing.T) {
	all := slices.Concat(lists(), wrongs(), [][]api.Member{make([]api.Member, 3000)})
	for _, l := range all {
		if got := roster.Print(l); got != bytes(l) {
			t.Fatalf("Print(%v) = %.100q", short(l), got)
		}
	}
}

// P16.2: Read reads a list wherever it stands, goes on behind it, and leaves the rest.
func TestRead(t *testing.T) {
	for _, l := range lists() {
		text := bytes(l)
		for _, ahead := range []string{"", "\x80", "ahead"} {
			for _, behind := range []string{"", "\x00", "\xff", one(apart(5))} {
				r := &code.Reader{S: ahead + text + behind, At: len(ahead)}
				got := roster.Read(r)
				if !slices.Equal(got, l) || r.Bad || r.At != len(ahead)+len(text) || r.Done() != (behind == "") || r.S != ahead+text+behind {
					t.Fatalf("Read of %v between %q and %q = %v, at %d, Bad %v", short(l), ahead, behind, short(got), r.At, r.Bad)
				}
			}
		}
	}
}

// P16.2: lists in one row, with other things between, are read in their order; each one's memory is its own.
func TestReadInRow(t *testing.T) {
	all := lists()
	var text strings.Builder
	for i, l := range all {
		text.WriteString(bytes(l) + code.Num(i))
	}
	r := &code.Reader{S: text.String()}
	var before []api.Member
	for i, l := range all {
		got, n := roster.Read(r), r.Num()
		clear(before[:cap(before)])
		if !slices.Equal(got, l) || n != i {
			t.Fatalf("thing %d: %v, %d, not %v", i, short(got), n, short(l))
		}
		before = got
	}
	if !r.Done() {
		t.Errorf("At %d of %d, Bad %v", r.At, len(r.S), r.Bad)
	}
	if got := roster.Read(r); len(got) > 0 || !r.Bad {
		t.Errorf("behind the end: %v", short(got))
	}
	if got := roster.Read(&code.Reader{S: bytes(all[10])}); !slices.Equal(got, all[10]) {
		t.Errorf("read again: %v", short(got))
	}
}

// P16.2: lists that may not be, though their bytes are whole.
func TestReadOfWrong(t *testing.T) {
	for _, l := range wrongs() {
		unread(t, "a wrong list", bytes(l))
		unread(t, "a wrong list", bytes(l)+bytes(row(least, 1, 2)))
	}
}

// P16.2: a Frozen has at most MaxBytes bytes, in each place; one that is told longer than it is is none.
func TestReadOfFrozen(t *testing.T) {
	for _, n := range []int{0, 1, 63, 64, 8191, 8192, mostBytes - 1, mostBytes, mostBytes + 1, 1 << 17} {
		for i := range 3 {
			l := row(apart, 2, 3, 4)
			l[i].Frozen = strings.Repeat("\x02", n)
			if n > mostBytes {
				unread(t, "a long Frozen", bytes(l))
				continue
			}
			r := &code.Reader{S: bytes(l)}
			if got := roster.Read(r); !slices.Equal(got, l) || !r.Done() {
				t.Fatalf("%d bytes: %v", n, short(got))
			}
		}
	}
	head := strings.TrimSuffix(bytes(row(least, 2)), "\x00")
	for _, n := range append(edges(), mostBytes-1, mostBytes, mostBytes+1) {
		r := &code.Reader{S: head + nums(n) + "abc"}
		got := roster.Read(r)
		want := 0 <= n && n <= 3
		if r.Bad == want || want && got[0].Frozen != "abc"[:n] || !want && len(got) > 0 {
			t.Fatalf("told %d bytes, where there are 3: %v", n, short(got))
		}
	}
}

// P16.2: how many there are is a number from 0 to 8, and there are so many.
func TestReadOfWrongHowMany(t *testing.T) {
	for there := range nodes + 1 {
		var text string
		for dev := range there {
			text += one(apart(dev))
		}
		for _, n := range append(edges(), 1<<32+1, 1<<32+8) {
			s := nums(n) + text
			if n < 0 || n > mostDevs || n > there {
				unread(t, "a wrong number of members", s)
				continue
			}
			r := &code.Reader{S: s}
			got := roster.Read(r)
			if r.Bad || len(got) != n || bytes(got) != s[:r.At] || r.Done() != (n == there) {
				t.Fatalf("%d told, %d there: %v", n, there, short(got))
			}
		}
	}
}

// P16.2: bytes that are cut are none's, wherever.
func TestReadOfCut(t *testing.T) {
	for _, l := range [][]api.Member{row(least, 0), row(apart, 1, 2, 10), row(least, 0, 1, 2, 3, 4, 5, 6, 7)} {
		text := bytes(l)
		for n := range len(text) {
			unread(t, "cut", text[:n])
		}
	}
	long := bytes(row(most, 3, 4))
	for _, n := range []int{1, 2, 100, mostBytes, mostBytes + 60, len(long) - mostBytes, len(long) - 1} {
		unread(t, "cut", long[:n])
	}
}

// P16.2: a number with more bytes than it needs, or too great a one, is none, in each field; In is 0 or 1.
func TestReadOfWrongBytes(t *testing.T) {
	numbers := []int{2, 3, 4, 1, 5, 6, 7, 3, 8, 9, 10, 2, 11, 12, 13, 14, 0, 5, 1, 0, 2, 3, 4, 5, 6, 7, 8, 1, 9, 10, 11, 12, 0} // two members
	for i, n := range numbers {
		low := code.Num(n)[0]
		for _, wrong := range []string{
			string([]byte{low | 128, 0}),
			string([]byte{low | 128, 128, 0}),
			string([]byte{low | 128}) + strings.Repeat("\x80", 8) + "\x02", // 2^64 more
			strings.Repeat("\xff", 12),
			nums(-1 - n),
		} {
			unread(t, "a wrong number", nums(numbers[:i]...)+wrong+nums(numbers[i+1:]...))
			unread(t, "a wrong number", nums(numbers[:i]...)+wrong+nums(numbers[i+1:]...)+strings.Repeat("\x02", 20))
		}
	}
	for _, i := range []int{3, 19} {
		for _, n := range edges() {
			l := slices.Clone(numbers)
			l[i] = n
			r := &code.Reader{S: nums(l...)}
			got := roster.Read(r)
			if want := n == 0 || n == 1; want != r.Done() || want && got[i/16].In != (n == 1) || !want && len(got) > 0 {
				t.Fatalf("In as %d: %v, Bad %v", n, got, r.Bad)
			}
		}
	}
}

// P16.2: behind Bad, and at places outside, nothing is read, though a list stands there.
func TestReadBehindBad(t *testing.T) {
	for _, l := range [][]api.Member{nil, row(least, 0), row(apart, 1, 2, 10)} {
		text := bytes(l)
		r := &code.Reader{S: text, Bad: true}
		if got := roster.Read(r); len(got) > 0 || !r.Bad {
			t.Errorf("behind Bad: %v, %#v", got, *r)
		}
		r = &code.Reader{S: "\x04" + text}
		if r.Bool(); len(roster.Read(r)) > 0 || !r.Bad {
			t.Errorf("behind a wrong bool: %#v", *r)
		}
		r = &code.Reader{S: bytes(row(least, 2, 1)) + text}
		if roster.Read(r); len(roster.Read(r)) > 0 || r.Num() != 0 || !r.Bad || r.Done() {
			t.Errorf("behind a wrong list: %#v", *r)
		}
		for _, place := range []int{math.MinInt, -1, len(text), len(text) + 1, math.MaxInt - 1, math.MaxInt} {
			r = &code.Reader{S: text, At: place}
			if got := roster.Read(r); len(got) > 0 || !r.Bad {
				t.Errorf("at %d: %v, %#v", place, got, *r)
			}
		}
	}
}

// P16.2: what Read takes is what Print writes, whichever bytes are changed, and may be.
func TestOneWriting(t *testing.T) {
	all := slices.DeleteFunc(lists(), func(l []api.Member) bool { return len(bytes(l)) > 400 })
	draw := rand.New(rand.NewSource(162))
	taken, refused := 0, 0
	for range 200000 {
		b := []byte(bytes(all[draw.Intn(len(all))]))
		for range 1 + draw.Intn(2) {
			b[draw.Intn(len(b))] = byte(draw.Intn(256))
		}
		r := &code.Reader{S: string(b)}
		l := roster.Read(r)
		if r.Bad {
			refused++
			if len(l) > 0 {
				t.Fatalf("% x is refused, and %v", b, l)
			}
			continue
		}
		taken++
		if !right(l) || !roster.Right(l) || roster.Print(l) != string(b[:r.At]) {
			t.Fatalf("% x is taken as %v", b, l)
		}
	}
	if taken < 10000 || refused < 10000 {
		t.Errorf("only %d taken, %d refused", taken, refused)
	}
}

// P16.2: of two members, all short numbers in each two places: those are taken that are a list that may be, and no others.
func TestAllShortNumbers(t *testing.T) {
	good := bytes(row(least, 1, 4))
	for i := 1; i < len(good); i++ {
		for j := 1; j < i; j++ {
			if (i-1)%16 == 15 || (j-1)%16 == 15 { // how many bytes a Frozen has: what is behind is another thing
				continue
			}
			for n := range 1 << 10 {
				b := []byte(good)
				b[i], b[j] = byte(n%32), byte(n/32)
				r := &code.Reader{S: string(b)}
				l := roster.Read(r)
				want, is := decode(b)
				if is = is && right(want); r.Done() != is || is && !slices.Equal(l, want) || !is && len(l) > 0 {
					t.Fatalf("Read of % x = %v, Bad %v", b, l, r.Bad)
				}
			}
		}
	}
}

// decode answers the two members whose numbers b has, a byte each, without a Frozen; false if In is none.
func decode(b []byte) ([]api.Member, bool) {
	num := func(i int) int {
		if b[i]%2 == 1 {
			return -1 - int(b[i]/2)
		}
		return int(b[i] / 2)
	}
	l := make([]api.Member, 2)
	for i := range l {
		at := 1 + 16*i
		if in := num(at + 2); in != 0 && in != 1 {
			return nil, false
		}
		r := api.Report{Dev: num(at + 6), Inc: num(at + 7), Boot: num(at + 8), Beat: num(at + 9), Mode: num(at + 10), Pos: num(at + 11), Clock: num(at + 12), Sent: num(at + 13), Chunk: num(at + 14)}
		l[i] = api.Member{Dev: num(at), Inc: num(at + 1), In: num(at+2) == 1, N: num(at + 3), Last: num(at + 4), Out: num(at + 5), Report: r}
	}
	return l, true
}
