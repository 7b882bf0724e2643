package queue_test

import (
	"encoding/binary"
	"math"
	"math/rand"
	"slices"
	"strings"
	"testing"

	"bargeman/api"
	"bargeman/code"
	"bargeman/queue"
)

// bytes is q's, as the document tells them, whatever q is.
func bytes(q api.Queue) string {
	b := nums(nil, q.First, q.Grant, len(q.Ops))
	for _, o := range q.Ops {
		b = append(nums(b, o.At.C, o.At.Dev, o.Inc, o.Num, o.Node, o.Up, len(o.Name)), o.Name...)
	}
	return string(b)
}

// nums is b, and the numbers' bytes behind it.
func nums(b []byte, l ...int) []byte {
	for _, n := range l {
		b = binary.AppendVarint(b, int64(n))
	}
	return b
}

// unread wants that Read finds no queue at the beginning of s, with other bytes ahead, too.
func unread(t *testing.T, what, s string) {
	t.Helper()
	for _, ahead := range []string{"", "\x80", bytes(stands(1, 0, 2))} {
		r := &code.Reader{S: ahead + s, At: len(ahead)}
		if q := queue.Read(r); !equal(q, api.Queue{}) || len(q.Ops) != 0 || !r.Bad || r.Done() || r.S != ahead+s {
			t.Fatalf("%s: Read of %.50q behind %q = %.200v, Bad %v", what, s, ahead, q, r.Bad)
		}
	}
}

// P13.1: queues whose bytes are known; each field has a place of its own.
func TestPrintOfKnown(t *testing.T) {
	five := api.Op{At: api.Stamp{C: 3, Dev: 1}, Inc: 1, Num: 2, Node: 5, Name: "a"} // layer 5's example
	for _, c := range []struct {
		q    api.Queue
		want string
	}{
		{queue.New(), "\x02\x00\x00"},
		{api.Queue{}, "\x00\x00\x00"},
		{api.Queue{First: 3, Grant: 128, Ops: []api.Op{}}, "\x06\x80\x02\x00"},
		{api.Queue{First: 2, Grant: 4, Ops: []api.Op{five}}, "\x04\x08\x02\x06\x02\x02\x04\x0a\x00\x02a"},
		{api.Queue{First: 4, Grant: 2, Ops: []api.Op{five, {Num: 7}}}, "\x08\x04\x04\x06\x02\x02\x04\x0a\x00\x02a\x00\x00\x00\x0e\x00\x00\x00"},
		{api.Queue{First: -1, Grant: -3, Ops: []api.Op{{}}}, "\x01\x05\x02\x00\x00\x00\x00\x00\x00\x00"},
		{api.Queue{First: mostCount, Grant: mostCount}, strings.Repeat("\x80\x80\x80\x80\x80\x40", 2) + "\x00"},
	} {
		if got := queue.Print(c.q); got != c.want {
			t.Errorf("Print(%v) = % x, not % x", c.q, got, c.want)
		}
	}
}

// P13.1: Print of any, be it a queue that may be or not.
func TestPrint(t *testing.T) {
	l := append(queues(), raws()...)
	for _, o := range append(wrongOps(), api.Op{Inc: math.MinInt, Num: math.MaxInt, Node: -2, Name: strings.Repeat("\xff", 99)}) {
		l = append(l, api.Queue{Ops: []api.Op{o}}, api.Queue{First: 3, Ops: []api.Op{at(1), o, at(2)}})
	}
	for _, q := range append(l, stands(1, 0, mostOps), stands(7, 3, mostOps+900)) {
		if got := queue.Print(q); got != bytes(q) {
			t.Fatalf("Print(%.200v) = %.100q", q, got)
		}
	}
}

// P13.2: Read reads a queue wherever it stands, goes on behind it, and leaves the rest.
func TestRead(t *testing.T) {
	for _, q := range append(queues(), stands(3, 2, 77)) {
		text := bytes(q)
		for _, ahead := range []string{"", "\x80", "ahead"} {
			for _, behind := range []string{"", "\x00", "\xff", "\x06\x02\x02\x04\x0a\x00\x02a"} {
				r := &code.Reader{S: ahead + text + behind, At: len(ahead)}
				got := queue.Read(r)
				if !equal(got, q) || r.Bad || r.At != len(ahead)+len(text) || r.Done() != (behind == "") || r.S != ahead+text+behind {
					t.Fatalf("Read of %v between %q and %q = %v, %#v", q, ahead, behind, got, *r)
				}
			}
		}
	}
}

// P13.2: queues in one row, with other things between, are read in their order; each one's memory is its own.
func TestReadInRow(t *testing.T) {
	l := queues()
	var text strings.Builder
	for i, q := range l {
		text.WriteString(bytes(q) + code.Num(i))
	}
	r := &code.Reader{S: text.String()}
	for i, q := range l {
		got, n := queue.Read(r), r.Num()
		if !equal(got, q) || n != i {
			t.Fatalf("thing %d: %v, %d, not %v", i, got, n, q)
		}
		clear(got.Ops[:cap(got.Ops)])
	}
	if !r.Done() {
		t.Errorf("At %d of %d, Bad %v", r.At, len(r.S), r.Bad)
	}
	if q := queue.Read(r); !equal(q, api.Queue{}) || !r.Bad {
		t.Errorf("behind the end: %v", q)
	}
}

// P13.2: at most 4096 operations, though a queue of more may be.
func TestReadOfMany(t *testing.T) {
	for _, first := range []int{1, 9, mostCount} {
		for _, n := range []int{mostOps - 1, mostOps} {
			q := stands(first, 5, n)
			r := &code.Reader{S: bytes(q)}
			if got := queue.Read(r); !equal(got, q) || !r.Done() {
				t.Errorf("%d operations from %d on: %d, Bad %v", n, first, len(got.Ops), r.Bad)
			}
		}
		for _, n := range []int{mostOps + 1, 2 * mostOps, 1 << 16} {
			unread(t, "too many", bytes(stands(first, 5, n)))
		}
	}
}

// P13.2: how many there are is a number from 0 to 4096, and there are so many.
func TestReadOfWrongHowMany(t *testing.T) {
	rest := bytes(stands(1, 0, 8))[3:]
	for _, n := range append(edges(), mostOps, mostOps+1, mostOps+2, 1<<32+2) {
		text := string(nums(nil, 1, 0, n)) + rest
		if 0 <= n && n <= 8 {
			r := &code.Reader{S: text}
			if q := queue.Read(r); !equal(q, stands(1, 0, n)) || r.Bad {
				t.Errorf("%d of 8 operations: %v, Bad %v", n, q, r.Bad)
			}
			continue
		}
		unread(t, "a wrong how many", text)
		unread(t, "a wrong how many", string(nums(nil, 1, 0, n)))
	}
	for n := 9; n <= mostOps; n += 511 {
		unread(t, "fewer than are told", string(nums(nil, 1, 0, n))+rest)
	}
}

// P13.2: First and Grant outside.
func TestReadOfWrongNumbers(t *testing.T) {
	for _, first := range edges() {
		for _, grant := range edges() {
			for n := range 3 {
				q := api.Queue{First: first, Grant: grant, Ops: row(3, n)}
				r := &code.Reader{S: bytes(q) + "\x02"}
				got := queue.Read(r)
				if 1 <= first && first <= mostCount && 0 <= grant && grant <= mostCount {
					if !equal(got, q) || r.Bad {
						t.Fatalf("Read of %v = %v, Bad %v", q, got, r.Bad)
					}
				} else if !equal(got, api.Queue{}) || !r.Bad {
					t.Fatalf("Read of %v = %v, Bad %v", q, got, r.Bad)
				}
			}
		}
	}
}

// P13.2: operations that may not be, wherever one stands.
func TestReadOfWrongOps(t *testing.T) {
	for _, n := range []int{1, 2, 3, 20} {
		for i := range n {
			for _, o := range wrongOps() {
				q := stands(4, 1, n)
				q.Ops[i] = o
				unread(t, "a wrong operation", bytes(q))
				unread(t, "a wrong operation", bytes(q)+bytes(stands(1, 0, 3))[3:])
			}
		}
	}
}

// P13.2: bytes that are cut are none's, wherever.
func TestReadOfCut(t *testing.T) {
	for _, q := range queues() {
		text := bytes(q)
		for n := range len(text) {
			unread(t, "cut", text[:n])
		}
	}
}

// P13.2: a number with more bytes than it needs, or too great a one, is none, in each field.
func TestReadOfWrongBytes(t *testing.T) {
	fields := []int{2, 9, 2, 3, 1, 1, 2, 5, 0, 1, 4, 1, 1, 3, 6, 5, 1} // two operations; numbers 9 and 16 are how long their names are
	text := func(i int, wrong string) string {
		var s string
		for j, n := range fields {
			if j == i {
				s += wrong
			} else {
				s += code.Num(n)
			}
			if j == 9 || j == 16 {
				s += "b"
			}
		}
		return s
	}
	for i, n := range fields {
		if r := (&code.Reader{S: text(i, code.Num(n))}); len(queue.Read(r).Ops) != 2 || !r.Done() {
			t.Fatalf("%q isn't read", r.S)
		}
		low := code.Num(n)[0]
		for _, wrong := range []string{
			string([]byte{low | 128, 0}),
			string([]byte{low | 128, 128, 0}),
			string([]byte{low | 128}) + strings.Repeat("\x80", 8) + "\x02", // 2^64 more
			strings.Repeat("\xff", 12),
		} {
			unread(t, "a wrong number", text(i, wrong))
			unread(t, "a wrong number", text(i, wrong)+strings.Repeat("\x02", 20))
		}
	}
}

// P13.2: behind Bad, and at places outside, nothing is read, though a queue stands there.
func TestReadBehindBad(t *testing.T) {
	for _, q := range []api.Queue{queue.New(), stands(1, 0, 2), stands(mostCount, 3, 0)} {
		text := bytes(q)
		r := &code.Reader{S: text, Bad: true}
		if got := queue.Read(r); !equal(got, api.Queue{}) || !r.Bad {
			t.Errorf("behind Bad: %v, %#v", got, *r)
		}
		r = &code.Reader{S: "\x04" + text}
		if r.Bool(); !equal(queue.Read(r), api.Queue{}) || !r.Bad {
			t.Errorf("behind a wrong bool: %#v", *r)
		}
		r = &code.Reader{S: string(nums(nil, 0, 0, 0)) + text}
		if queue.Read(r); !equal(queue.Read(r), api.Queue{}) || r.Num() != 0 || !r.Bad || r.Done() {
			t.Errorf("behind a wrong queue: %#v", *r)
		}
		for _, place := range []int{math.MinInt, -1, len(text), len(text) + 1, math.MaxInt - 1, math.MaxInt} {
			r = &code.Reader{S: text, At: place}
			if got := queue.Read(r); !equal(got, api.Queue{}) || !r.Bad {
				t.Errorf("at %d: %v, %#v", place, got, *r)
			}
		}
	}
}

// P13.2: bytes go there and back: what Read takes is what Print writes, whichever bytes are changed.
func TestOneWriting(t *testing.T) {
	l := queues()
	draw := rand.New(rand.NewSource(13))
	taken, refused := 0, 0
	for range 100000 {
		b := []byte(bytes(l[draw.Intn(len(l))]))
		for range 1 + draw.Intn(2) {
			b[draw.Intn(len(b))] = byte(draw.Intn(256))
		}
		r := &code.Reader{S: string(b)}
		q := queue.Read(r)
		if r.Bad {
			refused++
			if !equal(q, api.Queue{}) {
				t.Fatalf("% x is refused, and %v", b, q)
			}
			continue
		}
		taken++
		if !queue.Right(q) || queue.Print(q) != string(b[:r.At]) {
			t.Fatalf("% x is taken as %v", b, q)
		}
	}
	if taken < 1000 || refused < 1000 {
		t.Errorf("only %d taken, %d refused", taken, refused)
	}
}

// P13.2: all bytes of a queue of few numbers: those are taken that are one, and no others.
func TestAllShortBytes(t *testing.T) {
	taken := 0
	for i := range 1 << 24 {
		b := [3]byte{byte(i >> 16), byte(i >> 8), byte(i)}
		r := &code.Reader{S: string(b[:])}
		q := queue.Read(r)
		want := b[0] != 0 && b[0]%2 == 0 && b[0] < 128 && b[1]%2 == 0 && b[1] < 128 && b[2] == 0
		if r.Done() != want || want && bytes(q) != r.S || r.Bad && !equal(q, api.Queue{}) {
			t.Fatalf("Read of % x = %v, Bad %v", b, q, r.Bad)
		}
		if want {
			taken++
		}
	}
	if taken != 63*64 {
		t.Errorf("%d taken", taken)
	}
}

// Rule 3: what was read is a queue's own, and another reading gives another one.
func TestReadAgain(t *testing.T) {
	q := stands(2, 3, 5)
	text := bytes(q)
	a := queue.Read(&code.Reader{S: text})
	clear(a.Ops[:cap(a.Ops)])
	b := queue.Read(&code.Reader{S: text})
	if !equal(b, q) || slices.Equal(a.Ops, b.Ops) {
		t.Errorf("read again: %v", b)
	}
}
