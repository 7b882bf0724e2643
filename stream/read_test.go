package stream_test

import (
	"encoding/binary"
	"math"
	"math/rand"
	"slices"
	"strings"
	"testing"

	"bargeman/api"
	"bargeman/code"
	"bargeman/stream"
)

// bytes is s's, as the document tells them, whatever s is.
func bytes(s api.Stream) string {
	b := nums(nil, s.S, s.T, s.Pos)
	for _, e := range s.Entries {
		if o := e.Op; e.Kind == opKind {
			b = append(nums(b, e.Kind, o.At.C, o.At.Dev, o.Inc, o.Num, o.Node, o.Up, len(o.Name)), o.Name...)
		} else {
			b = nums(b, e.Kind, e.Dev, e.Inc)
		}
	}
	return string(b)
}

// nums is b, and the numbers' bytes behind it.
func nums(b []byte, l ...int) []byte {
	for _, n := range l {
		b = binary.AppendVarint(b, int64(n))
	}
	return b
}

// unread wants that Read finds no stream at the beginning of s, with other bytes ahead, too.
func unread(t *testing.T, what, s string) {
	t.Helper()
	for _, ahead := range []string{"", "\x80", bytes(stands(0, 0, 2))} {
		r := &code.Reader{S: ahead + s, At: len(ahead)}
		if x := stream.Read(r); !equal(x, api.Stream{}) || !r.Bad || r.Done() || r.S != ahead+s {
			t.Fatalf("%s: Read of %.50q behind %q = %.200v, Bad %v", what, s, ahead, x, r.Bad)
		}
	}
}

// P12.1: streams whose bytes are known; each field has a place of its own.
func TestPrintOfKnown(t *testing.T) {
	for _, c := range []struct {
		s    api.Stream
		want string
	}{
		{api.Stream{}, "\x00\x00\x00"},
		{api.Stream{Entries: []api.Entry{}}, "\x00\x00\x00"},
		{api.Stream{S: 3, T: 128, Pos: 3}, "\x06\x80\x02\x06"},
		{api.Stream{S: 1, T: 2, Pos: 2, Entries: []api.Entry{admit(3, 2)}}, "\x02\x04\x04\x06\x06\x04"},
		{api.Stream{S: 1, T: 5, Pos: 3, Entries: []api.Entry{evict(4, 1), by(3, 1)}}, "\x02\x0a\x06\x04\x08\x02\x02\x06\x02\x02\x02\x0a\x00\x02a"},
		{api.Stream{S: -1, T: -3, Pos: 4, Entries: []api.Entry{{}}}, "\x01\x05\x08\x00\x00\x00"},
		{api.Stream{S: 4, T: 3}, "\x08\x06\x00"},
		{api.Stream{S: mostCount, T: mostCount, Pos: mostCount}, strings.Repeat("\x80\x80\x80\x80\x80\x40", 3)},
	} {
		if got := stream.Print(c.s); got != c.want {
			t.Errorf("Print(%v) = % x, not % x", c.s, got, c.want)
		}
	}
}

// P12.1: Print of any, be it a stream that may be or not.
func TestPrint(t *testing.T) {
	l := append(streams(), raws()...)
	for _, e := range []api.Entry{{}, {Kind: opKind}, {Kind: -1, Dev: -2, Inc: math.MinInt}, by(0, 77), {Kind: evictKind, Dev: math.MaxInt}} {
		l = append(l, api.Stream{Entries: []api.Entry{e}}, api.Stream{Pos: 3, Entries: []api.Entry{at(1), e, at(2)}})
	}
	for _, s := range append(l, stands(0, 0, mostEntries), stands(7, 3, mostEntries+900)) {
		if got := stream.Print(s); got != bytes(s) {
			t.Fatalf("Print(%.200v) = %.100q", s, got)
		}
	}
}

// P12.2: Read reads a stream wherever it stands, goes on behind it, and leaves the rest.
func TestRead(t *testing.T) {
	for _, s := range append(streams(), stands(3, 2, 77)) {
		text := bytes(s)
		for _, ahead := range []string{"", "\x80", "ahead"} {
			for _, behind := range []string{"", "\x00", "\xff", "\x06\x06\x04", "\x02\x06\x02\x02\x02\x0a\x00\x02a"} {
				r := &code.Reader{S: ahead + text + behind, At: len(ahead)}
				got := stream.Read(r)
				if !equal(got, s) || r.Bad || r.At != len(ahead)+len(text) || r.Done() != (behind == "") || r.S != ahead+text+behind {
					t.Fatalf("Read of %v between %q and %q = %v, %#v", s, ahead, behind, got, *r)
				}
			}
		}
	}
}

// P12.2: streams in one row, with other things between, are read in their order; each one's memory is its own.
func TestReadInRow(t *testing.T) {
	l := streams()
	var text strings.Builder
	for i, s := range l {
		text.WriteString(bytes(s) + code.Num(i))
	}
	r := &code.Reader{S: text.String()}
	for i, s := range l {
		got, n := stream.Read(r), r.Num()
		if !equal(got, s) || n != i {
			t.Fatalf("thing %d: %v, %d, not %v", i, got, n, s)
		}
		clear(got.Entries[:cap(got.Entries)])
	}
	if !r.Done() {
		t.Errorf("At %d of %d, Bad %v", r.At, len(r.S), r.Bad)
	}
	if s := stream.Read(r); !equal(s, api.Stream{}) || !r.Bad {
		t.Errorf("behind the end: %v", s)
	}
}

// P12.2: at most 4096 entries, though one of more may be.
func TestReadOfMany(t *testing.T) {
	for _, place := range []int{0, 1, 9, mostCount - mostEntries} {
		for _, n := range []int{mostEntries - 1, mostEntries} {
			s := stands(place, 5, n)
			r := &code.Reader{S: bytes(s)}
			if got := stream.Read(r); !equal(got, s) || !r.Done() {
				t.Errorf("%d entries behind %d: %d, Bad %v", n, place, len(got.Entries), r.Bad)
			}
		}
	}
	for _, n := range []int{mostEntries + 1, 2 * mostEntries, 1 << 16} {
		unread(t, "too many", bytes(stands(0, 5, n)))
		unread(t, "too many", bytes(stands(9, 5, n)))
	}
	for _, n := range []int{mostEntries + 1, 1 << 31, 1 << 32, 1<<32 + 2, mostCount} {
		unread(t, "too many, and not there", string(nums(nil, 0, 0, n)))
		unread(t, "too many, and not there", string(nums(nil, 0, 0, n))+bytes(stands(0, 0, 2))[3:])
	}
}

// P12.2: numbers outside, and S above Pos.
func TestReadOfWrongCounts(t *testing.T) {
	in := func(n int) bool { return 0 <= n && n <= mostCount }
	rest := strings.Repeat("\x06\x06\x04", 8)
	for _, s := range edges() {
		for _, counter := range edges() {
			for _, pos := range edges() {
				text := string(nums(nil, s, counter, pos)) + rest
				r := &code.Reader{S: text}
				got := stream.Read(r)
				if in(s) && in(counter) && in(pos) && s <= pos && pos-s <= 8 {
					want := api.Stream{S: s, T: counter, Pos: pos}
					for range pos - s {
						want.Entries = append(want.Entries, admit(3, 2))
					}
					if !equal(got, want) || r.Bad {
						t.Fatalf("Read of %d, %d, %d = %v, Bad %v", s, counter, pos, got, r.Bad)
					}
				} else if !equal(got, api.Stream{}) || !r.Bad {
					t.Fatalf("Read of %d, %d, %d = %v, Bad %v", s, counter, pos, got, r.Bad)
				}
			}
		}
	}
}

// P12.2: entries that may not be, wherever one stands.
func TestReadOfWrongEntries(t *testing.T) {
	wrong := []api.Entry{{}, {Kind: opKind}, {Kind: evictKind}, {Kind: 4, Dev: 1, Inc: 1}, {Kind: -1, Dev: 1, Inc: 1}, evict(devices, 1), evict(-1, 1), admit(0, 0), admit(1, mostCount+1), by(0, 1), by(mostCount+1, 1), by(1, devices)}
	for _, n := range []int{1, 2, 3, 20} {
		for i := range n {
			for _, e := range wrong {
				s := stands(4, 1, n)
				s.Entries[i] = e
				unread(t, "a wrong entry", bytes(s))
				unread(t, "a wrong entry", bytes(s)+bytes(stands(0, 0, 3))[3:])
			}
		}
	}
}

// P12.2: bytes that are cut are none's, wherever.
func TestReadOfCut(t *testing.T) {
	for _, s := range streams() {
		text := bytes(s)
		for n := range len(text) {
			unread(t, "cut", text[:n])
		}
	}
}

// P12.2: a number with more bytes than it needs, or too great a one, is none, in each field.
func TestReadOfWrongNumbers(t *testing.T) {
	fields := []int{2, 9, 4, evictKind, 3, 2, admitKind, 5, 7}
	for i, n := range fields {
		low := code.Num(n)[0]
		for _, wrong := range []string{
			string([]byte{low | 128, 0}),
			string([]byte{low | 128, 128, 0}),
			string([]byte{low | 128}) + strings.Repeat("\x80", 8) + "\x02", // 2^64 more
			strings.Repeat("\xff", 12),
		} {
			var text string
			for j, m := range fields {
				if j == i {
					text += wrong
				} else {
					text += code.Num(m)
				}
			}
			unread(t, "a wrong number", text)
			unread(t, "a wrong number", text+strings.Repeat("\x02", 20))
		}
	}
}

// P12.2: behind Bad, and at places outside, nothing is read, though a stream stands there.
func TestReadBehindBad(t *testing.T) {
	for _, s := range []api.Stream{{}, stands(0, 0, 2), stands(mostCount, 3, 0)} {
		text := bytes(s)
		r := &code.Reader{S: text, Bad: true}
		if got := stream.Read(r); !equal(got, api.Stream{}) || !r.Bad {
			t.Errorf("behind Bad: %v, %#v", got, *r)
		}
		r = &code.Reader{S: "\x04" + text}
		if r.Bool(); !equal(stream.Read(r), api.Stream{}) || !r.Bad {
			t.Errorf("behind a wrong bool: %#v", *r)
		}
		r = &code.Reader{S: string(nums(nil, 1, 0, 0)) + text}
		if stream.Read(r); !equal(stream.Read(r), api.Stream{}) || r.Num() != 0 || !r.Bad || r.Done() {
			t.Errorf("behind a wrong stream: %#v", *r)
		}
		for _, at := range []int{math.MinInt, -1, len(text), len(text) + 1, math.MaxInt - 1, math.MaxInt} {
			r = &code.Reader{S: text, At: at}
			if got := stream.Read(r); !equal(got, api.Stream{}) || !r.Bad {
				t.Errorf("at %d: %v, %#v", at, got, *r)
			}
		}
	}
}

// P12.2: bytes go there and back: what Read takes is what Print writes, whichever bytes are changed.
func TestOneWriting(t *testing.T) {
	l := streams()
	draw := rand.New(rand.NewSource(12))
	taken, refused := 0, 0
	for range 100000 {
		b := []byte(bytes(l[draw.Intn(len(l))]))
		for range 1 + draw.Intn(2) {
			b[draw.Intn(len(b))] = byte(draw.Intn(256))
		}
		r := &code.Reader{S: string(b)}
		s := stream.Read(r)
		if r.Bad {
			refused++
			if !equal(s, api.Stream{}) {
				t.Fatalf("% x is refused, and %v", b, s)
			}
			continue
		}
		taken++
		if !stream.Right(s) || stream.Print(s) != string(b[:r.At]) {
			t.Fatalf("% x is taken as %v", b, s)
		}
	}
	if taken < 1000 || refused < 1000 {
		t.Errorf("only %d taken, %d refused", taken, refused)
	}
}

// P12.2: all bytes of a stream of few numbers: those are taken that are one, and no others.
func TestAllShortBytes(t *testing.T) {
	taken := 0
	for i := range 1 << 24 {
		text := string([]byte{byte(i >> 16), byte(i >> 8), byte(i)})
		r := &code.Reader{S: text}
		s := stream.Read(r)
		want := text[0] == text[2]
		for _, b := range []byte(text) {
			want = want && b%2 == 0 && b < 128
		}
		if r.Done() != want || want && bytes(s) != text || r.Bad && !equal(s, api.Stream{}) {
			t.Fatalf("Read of % x = %v, Bad %v", text, s, r.Bad)
		}
		if want {
			taken++
		}
	}
	if taken != 64*64 {
		t.Errorf("%d taken", taken)
	}
}

// Rule 3: what was read is a stream's own, and another reading gives another one.
func TestReadAgain(t *testing.T) {
	s := stands(2, 3, 5)
	text := bytes(s)
	a := stream.Read(&code.Reader{S: text})
	clear(a.Entries[:cap(a.Entries)])
	b := stream.Read(&code.Reader{S: text})
	if !equal(b, s) || slices.Equal(a.Entries, b.Entries) {
		t.Errorf("read again: %v", b)
	}
}
