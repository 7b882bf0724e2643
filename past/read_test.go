package past_test

import (
	"encoding/binary"
	"math"
	"math/rand"
	"slices"
	"strings"
	"testing"

	"bargeman/api"
	"bargeman/code"
	"bargeman/past"
)

// bytes is p's, as the document tells them, whatever p is.
func bytes(p api.Past) string {
	b := nums(nil, len(p.Base))
	for _, x := range p.Base {
		b = append(nums(b, x.Node, x.Up, len(x.Name)), x.Name...)
	}
	b = nums(b, p.T, len(p.Ops))
	for _, o := range p.Ops {
		b = append(nums(b, o.At.C, o.At.Dev, o.Inc, o.Num, o.Node, o.Up, len(o.Name)), o.Name...)
	}
	return string(b)
}

// nums is b, and the numbers' bytes behind it.
func nums(b []byte, l ...int) []byte {
	for _, n := range l {
		b = binary.AppendVarint(b, int64(n))
	}
	return b
}

// unread wants that Read finds no past at the beginning of s, with other bytes ahead, too.
func unread(t *testing.T, what, s string) {
	t.Helper()
	for _, ahead := range []string{"", "\x80", bytes(some()[0])} {
		r := &code.Reader{S: ahead + s, At: len(ahead)}
		if p := past.Read(r); !equal(p, api.Past{}) || !r.Bad || r.Done() || r.S != ahead+s {
			t.Fatalf("%s: Read of %.50q behind %q = %v, Bad %v", what, s, ahead, p, r.Bad)
		}
	}
}

// many is a past of n operations.
func many(n int) api.Past {
	var l []api.Op
	for c := range n {
		l = append(l, to(c+1, c%devices, first+c%7, first+(c+1)%7))
	}
	return words(bases()[2], 0, l)
}

// P8.1: pasts whose bytes are known; each field has a place of its own.
func TestPrintOfKnown(t *testing.T) {
	base := []api.Place{{Node: 5, Up: 3, Name: "b"}}
	l := []api.Op{{At: api.Stamp{C: 3, Dev: 1}, Inc: 1, Num: 2, Node: 5, Name: "a"}, {At: api.Stamp{C: 64, Dev: 4}, Inc: 3, Num: 6, Node: 7, Up: 8, Name: "xy"}}
	cases := []struct {
		p    api.Past
		want string
	}{
		{api.Past{}, "\x00\x00\x00"},
		{api.Past{Base: []api.Place{}, Ops: []api.Op{}}, "\x00\x00\x00"},
		{words(nil, 128, nil), "\x00\x80\x02\x00"},
		{words(base, 2, l), "\x02\x0a\x06\x02b\x04\x04\x06\x02\x02\x04\x0a\x00\x02a\x80\x01\x08\x06\x0c\x0e\x10\x04xy"},
		{api.Past{Base: []api.Place{{Node: -1, Name: "/"}}, T: -3, Ops: []api.Op{{}}, Undos: []api.Undo{{}, {}}}, "\x02\x01\x00\x02/\x05\x02\x00\x00\x00\x00\x00\x00\x00"},
	}
	for _, c := range cases {
		if got := past.Print(c.p); got != c.want {
			t.Errorf("Print(%v) = % x, not % x", c.p, got, c.want)
		}
	}
}

// P8.1: Print of any, be it a past or not; undos and the tree now are of no account.
func TestPrint(t *testing.T) {
	l := append(pasts(), raws()...)
	for _, p := range some() {
		l = slices.Concat(l, nonPasts(p), nonBytes(p))
	}
	for _, p := range append(l, many(mostOps+900)) {
		if got := past.Print(p); got != bytes(p) {
			t.Fatalf("Print(%v) = %.100q", p, got)
		}
	}
}

// P8.2: Read reads a past wherever it stands, goes on behind it, and leaves the rest.
func TestRead(t *testing.T) {
	for _, p := range append(pasts(), some()...) {
		s := bytes(p)
		for _, ahead := range []string{"", "\x80", "ahead"} {
			for _, behind := range []string{"", "\x00", "\xff", "\x06\x02\x02\x04\x0a\x00\x02a"} {
				r := &code.Reader{S: ahead + s + behind, At: len(ahead)}
				got := past.Read(r)
				if !equal(got, p) || r.Bad || r.At != len(ahead)+len(s) || r.Done() != (behind == "") || r.S != ahead+s+behind {
					t.Fatalf("Read of %v between %q and %q = %v, %#v", p, ahead, behind, got, *r)
				}
			}
		}
	}
}

// P8.2: pasts in one row, with other things between, are read in their order; each one's memory is its own.
func TestReadInRow(t *testing.T) {
	l := pasts()
	var row strings.Builder
	for i, p := range l {
		row.WriteString(bytes(p) + code.Num(i))
	}
	r := &code.Reader{S: row.String()}
	for i, p := range l {
		got, n := past.Read(r), r.Num()
		if !equal(got, p) || n != i {
			t.Fatalf("thing %d: %v, %d, not %v", i, got, n, p)
		}
		spoilPast(t, got)
	}
	if !r.Done() {
		t.Errorf("At %d of %d, Bad %v", r.At, len(r.S), r.Bad)
	}
	if p := past.Read(r); !equal(p, api.Past{}) || !r.Bad || r.Done() {
		t.Errorf("behind the end: %v", p)
	}
}

// P8.2: at most 4096 operations.
func TestReadOfMany(t *testing.T) {
	p := many(mostOps)
	r := &code.Reader{S: bytes(p)}
	if got := past.Read(r); !equal(got, p) || !r.Done() {
		t.Errorf("%d operations: %d, %v", mostOps, len(got.Ops), r.Bad)
	}
	unread(t, "one more", bytes(many(mostOps+1)))
	unread(t, "twice as many", bytes(many(2*mostOps)))
}

// P8.2: what is no past is none, though its bytes are right ones.
func TestReadOfNone(t *testing.T) {
	for _, p := range some() {
		for _, q := range nonPasts(p) {
			unread(t, "no past", bytes(q))
		}
	}
}

// P8.2: bytes that are cut are none's, wherever.
func TestReadOfCut(t *testing.T) {
	for _, p := range append(some(), pasts()[:40]...) {
		s := bytes(p)
		for n := range len(s) {
			unread(t, "cut", s[:n])
		}
	}
}

// P8.2: a count that no past has, or that isn't that of the operations.
func TestReadOfWrongCounts(t *testing.T) {
	p := many(20)
	whole := bytes(p)
	base := whole[:len(whole)-len(bytes(api.Past{Ops: p.Ops}))+1]
	rest := whole[len(base)+2:]
	for _, n := range []int{math.MinInt, -2, -1, mostOps + 1, 1 << 16, 1 << 32, 1<<32 + 20, maxCount, math.MaxInt} {
		for _, behind := range []string{"", "\x00", rest, rest + rest} {
			unread(t, "a wrong count", base+string(nums(nil, 0, n))+behind)
		}
	}
	unread(t, "more than there are", base+string(nums(nil, 0, 21))+rest)
	for n := range 21 {
		r := &code.Reader{S: base + string(nums(nil, 0, n)) + rest}
		if got := past.Read(r); !equal(got, words(p.Base, 0, p.Ops[:n])) || r.Bad || r.Done() != (n == 20) {
			t.Errorf("%d: %v, %#v", n, got, *r)
		}
	}
}

// P8.2: a number with more bytes than it needs, or too great a one, is none.
func TestReadOfWrongNumbers(t *testing.T) {
	for i, ahead := range []string{"", "\x00", "\x00\x00"} {
		rest := strings.Repeat("\x00", 2-i)
		if r := (&code.Reader{S: ahead + "\x00" + rest}); !equal(past.Read(r), api.Past{}) || !r.Done() {
			t.Fatalf("the empty past isn't read: %#v", *r)
		}
		for _, wrong := range []string{"\x80\x00", "\x80\x80\x00", "\x80\x80\x80\x80\x80\x80\x80\x80\x80\x02", strings.Repeat("\xff", 12)} {
			unread(t, "a wrong number", ahead+wrong+rest)
		}
	}
}

// P8.2: behind Bad, and at places outside, nothing is read, though a past stands there.
func TestReadBehindBad(t *testing.T) {
	for _, p := range append(some(), api.Past{}) {
		s := bytes(p)
		r := &code.Reader{S: s, Bad: true}
		if got := past.Read(r); !equal(got, api.Past{}) || !r.Bad {
			t.Errorf("behind Bad: %v, %#v", got, *r)
		}
		r = &code.Reader{S: "\x04" + s}
		if r.Bool(); !equal(past.Read(r), api.Past{}) || !r.Bad {
			t.Errorf("behind a wrong bool: %#v", *r)
		}
		r = &code.Reader{S: "\x00\x01\x00" + s} // T is -1
		if past.Read(r); !equal(past.Read(r), api.Past{}) || r.Num() != 0 || !r.Bad || r.Done() {
			t.Errorf("behind a wrong past: %#v", *r)
		}
		for _, at := range []int{math.MinInt, -1, len(s), len(s) + 1, math.MaxInt - 1, math.MaxInt} {
			r = &code.Reader{S: s, At: at}
			if got := past.Read(r); !equal(got, api.Past{}) || !r.Bad {
				t.Errorf("at %d: %v, %#v", at, got, *r)
			}
		}
	}
}

// P8.2, P8.3: pasts go there and back, also those that came about by Add and Settle.
func TestThereAndBack(t *testing.T) {
	for i, p := range pasts() {
		q, _ := past.Add(past.Settle(p, min(maxCount, p.T+i%9)), to(maxCount, 7, 2, 0))
		for _, x := range []api.Past{p, q} {
			r := &code.Reader{S: past.Print(x)}
			if y := past.Read(r); !equal(x, y) || !r.Done() || !past.Right(y) {
				t.Fatalf("%v comes back as %v, %#v", x, y, *r)
			}
		}
	}
}

// P8.2: what Read takes is a past, and what Print writes of it, whichever bytes are changed.
func TestOneWriting(t *testing.T) {
	draw := rand.New(rand.NewSource(8))
	l := append(pasts()[:40], some()...)
	taken, refused := 0, 0
	for range 60000 {
		b := []byte(bytes(l[draw.Intn(len(l))]))
		for range 1 + draw.Intn(2) {
			b[draw.Intn(len(b))] = byte(draw.Intn(256))
		}
		r := &code.Reader{S: string(b)}
		p := past.Read(r)
		if r.Bad {
			refused++
			if !equal(p, api.Past{}) {
				t.Fatalf("% x is none, and %v", b, p)
			}
			continue
		}
		taken++
		if !equal(p, words(p.Base, p.T, p.Ops)) || !past.Right(p) || past.Print(p) != string(b[:r.At]) {
			t.Fatalf("% x is taken as %v", b, p)
		}
	}
	if taken < 1000 || refused < 1000 {
		t.Errorf("%d taken, %d refused", taken, refused)
	}
}
