package frame_test

import (
	"math"
	"math/rand"
	"strings"
	"testing"

	"bargeman/api"
	"bargeman/code"
	"bargeman/frame"
)

// noGift wants that ReadGift finds no gift at the beginning of s, with other bytes ahead, too.
func noGift(t *testing.T, what, s string) {
	t.Helper()
	for _, ahead := range []string{"", "\x80", giftBytes(giftOf(3))} {
		r := &code.Reader{S: ahead + s, At: len(ahead)}
		if g := frame.ReadGift(r); g != (api.Gift{}) || !r.Bad || r.Done() || r.S != ahead+s {
			t.Fatalf("%s: ReadGift of %.80q behind %q = %s, Bad %v", what, s, ahead, short(g), r.Bad)
		}
	}
}

// P15.1: gifts whose bytes are known; each field has a place of its own.
func TestPrintGiftOfKnown(t *testing.T) {
	for _, c := range []struct {
		g    api.Gift
		want string
	}{
		{api.Gift{}, "\x00\x00\x00\x00\x00"},
		{api.Gift{Dev: 2, Inc: 1, Total: 1, Data: "x"}, "\x04\x02\x00\x02\x02x"},
		{api.Gift{Dev: 3, Inc: 4, Chunk: 128, Total: 5, Data: "\x00\xff"}, "\x06\x08\x80\x02\x0a\x04\x00\xff"},
		{api.Gift{Dev: -1, Inc: -2, Chunk: -3, Total: -4}, "\x01\x03\x05\x07\x00"},
		{api.Gift{Dev: 11, Inc: mostCount, Data: strings.Repeat("d", 256)}, "\x16\x80\x80\x80\x80\x80\x40\x00\x00\x80\x04" + strings.Repeat("d", 256)},
	} {
		if got := frame.PrintGift(c.g); got != c.want {
			t.Errorf("PrintGift(%v) = % x, not % x", c.g, got, c.want)
		}
	}
}

// P15.1: PrintGift of any, be it a gift that may be or not.
func TestPrintGift(t *testing.T) {
	for _, g := range append(gifts(), wrongGifts()...) {
		if got := frame.PrintGift(g); got != giftBytes(g) {
			t.Fatalf("PrintGift(%s) = %.100q", short(g), got)
		}
	}
}

// P15.2: ReadGift reads a gift wherever it stands, goes on behind it, and leaves the rest.
func TestReadGift(t *testing.T) {
	for _, x := range gifts() {
		text := giftBytes(x)
		for _, ahead := range []string{"", "\x80", "ahead"} {
			for _, behind := range []string{"", "\x00", "\xff", text} {
				r := &code.Reader{S: ahead + text + behind, At: len(ahead)}
				got := frame.ReadGift(r)
				if got != x || r.Bad || r.At != len(ahead)+len(text) || r.Done() != (behind == "") || r.S != ahead+text+behind {
					t.Fatalf("ReadGift of %v between %q and %q = %v, %#v", x, ahead, behind, got, *r)
				}
			}
		}
	}
}

// P15.2: gifts in one row, with other things between, are read in their order.
func TestReadGiftInRow(t *testing.T) {
	l := gifts()
	var text strings.Builder
	for i, x := range l {
		text.WriteString(giftBytes(x) + code.Num(i))
	}
	r := &code.Reader{S: text.String()}
	for i, x := range l {
		if got, n := frame.ReadGift(r), r.Num(); got != x || n != i {
			t.Fatalf("thing %d: %v, %d, not %v", i, got, n, x)
		}
	}
	if !r.Done() {
		t.Errorf("At %d of %d, Bad %v", r.At, len(r.S), r.Bad)
	}
	if got := frame.ReadGift(r); got != (api.Gift{}) || !r.Bad {
		t.Errorf("behind the end: %v", got)
	}
}

// P15.2: each field outside, alone.
func TestReadGiftOfWrong(t *testing.T) {
	for _, x := range wrongGifts() {
		noGift(t, "a wrong gift", giftBytes(x))
		noGift(t, "a wrong gift", giftBytes(x)+giftBytes(giftOf(2)))
	}
}

// P15.2: all lengths of Data, told and there.
func TestReadGiftOfData(t *testing.T) {
	for n := range 600 {
		text := nums(2, 1, 0, 1, n)
		data := strings.Repeat("é", n)[:n]
		if n > 256 {
			noGift(t, "too much Data", text+data)
			noGift(t, "too much Data", text+strings.Repeat("x", 1000))
			continue
		}
		r := &code.Reader{S: text + data}
		if g := frame.ReadGift(r); g != (api.Gift{Dev: 2, Inc: 1, Total: 1, Data: data}) || !r.Done() {
			t.Fatalf("%d bytes of Data: %v, Bad %v", n, g, r.Bad)
		}
		if n > 0 {
			noGift(t, "less Data than is told", text+data[1:])
		}
	}
	for _, n := range edges() {
		if n < 0 || n > 256 {
			noGift(t, "a wrong length", nums(2, 1, 0, 1, n)+strings.Repeat("x", 300))
		}
	}
}

// P15.2: bytes that are cut are none's, wherever.
func TestReadGiftOfCut(t *testing.T) {
	for _, x := range gifts() {
		text := giftBytes(x)
		for n := range len(text) {
			noGift(t, "cut", text[:n])
		}
	}
}

// P15.2: a number with more bytes than it needs, or too great a one, is none, in each field.
func TestReadGiftOfWrongBytes(t *testing.T) {
	l := []int{3, 4, 5, 6, 1}
	for i, n := range l {
		low := nums(n)[0]
		for _, wrong := range []string{
			string([]byte{low | 128, 0}),
			string([]byte{low | 128, 128, 0}),
			string([]byte{low | 128}) + strings.Repeat("\x80", 8) + "\x02", // 2^64 more
			strings.Repeat("\xff", 12),
		} {
			text := nums(l[:i]...) + wrong + nums(l[i+1:]...) + "x"
			noGift(t, "a wrong number", text)
			noGift(t, "a wrong number", text+strings.Repeat("\x02", 20))
		}
	}
	r := &code.Reader{S: nums(l...) + "x"}
	if g := frame.ReadGift(r); !frame.RightGift(g) || !r.Done() {
		t.Errorf("the numbers themselves: %v", g)
	}
}

// P15.2: behind Bad, and at places outside, nothing is read, though a gift stands there.
func TestReadGiftBehindBad(t *testing.T) {
	for _, x := range []api.Gift{{Inc: 1}, giftOf(5), most().Gifts[0]} {
		text := giftBytes(x)
		r := &code.Reader{S: text, Bad: true}
		if got := frame.ReadGift(r); got != (api.Gift{}) || !r.Bad {
			t.Errorf("behind Bad: %v, %#v", got, *r)
		}
		r = &code.Reader{S: "\x04" + text}
		if r.Bool(); frame.ReadGift(r) != (api.Gift{}) || !r.Bad {
			t.Errorf("behind a wrong bool: %#v", *r)
		}
		r = &code.Reader{S: giftBytes(api.Gift{}) + text}
		if frame.ReadGift(r); frame.ReadGift(r) != (api.Gift{}) || r.Num() != 0 || !r.Bad || r.Done() {
			t.Errorf("behind a wrong gift: %#v", *r)
		}
		for _, place := range []int{math.MinInt, -1, len(text), len(text) + 1, math.MaxInt - 1, math.MaxInt} {
			r = &code.Reader{S: text, At: place}
			if got := frame.ReadGift(r); got != (api.Gift{}) || !r.Bad {
				t.Errorf("at %d: %v, %#v", place, got, *r)
			}
		}
	}
}

// P15.2: what ReadGift takes is what PrintGift writes, whichever bytes are changed.
func TestOneWritingOfGift(t *testing.T) {
	l := gifts()
	draw := rand.New(rand.NewSource(151))
	taken, refused := 0, 0
	for range 100000 {
		b := []byte(giftBytes(l[draw.Intn(len(l))]))
		for range 1 + draw.Intn(2) {
			b[draw.Intn(min(len(b), 12))] = byte(draw.Intn(256))
		}
		r := &code.Reader{S: string(b)}
		g := frame.ReadGift(r)
		if r.Bad {
			refused++
			if g != (api.Gift{}) {
				t.Fatalf("% x is refused, and %v", b, g)
			}
			continue
		}
		taken++
		if !frame.RightGift(g) || frame.PrintGift(g) != string(b[:r.At]) {
			t.Fatalf("% x is taken as %v", b, g)
		}
	}
	if taken < 5000 || refused < 5000 {
		t.Errorf("only %d taken, %d refused", taken, refused)
	}
}
