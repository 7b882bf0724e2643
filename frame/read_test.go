package frame_test

import (
	"encoding/binary"
	"hash/crc32"
	"math/rand"
	"slices"
	"strings"
	"testing"

	"bargeman/api"
	"bargeman/frame"
)

// nums is the numbers' bytes, one behind the other.
func nums(l ...int) string {
	var b []byte
	for _, n := range l {
		b = binary.AppendVarint(b, int64(n))
	}
	return string(b)
}

// sealed is s behind its number of bytes and its sum.
func sealed(s string) string {
	b := binary.LittleEndian.AppendUint32(nil, uint32(len(s)))
	b = binary.LittleEndian.AppendUint32(b, crc32.ChecksumIEEE([]byte(s)))
	return string(b) + s
}

// opBytes is o's, as the document tells them.
func opBytes(o api.Op) string {
	return nums(o.At.C, o.At.Dev, o.Inc, o.Num, o.Node, o.Up, len(o.Name)) + o.Name
}

// reportBytes is r's, as the document tells them.
func reportBytes(r api.Report) string {
	return nums(r.Dev, r.Inc, r.Boot, r.Beat, r.Mode, r.Pos, r.Clock, r.Sent, r.Chunk)
}

// entryBytes is e's, as the document tells them.
func entryBytes(e api.Entry) string {
	if e.Kind == 1 {
		return nums(1) + opBytes(e.Op)
	}
	return nums(e.Kind, e.Dev, e.Inc)
}

// giftBytes is g's, as the document tells them.
func giftBytes(g api.Gift) string {
	return nums(g.Dev, g.Inc, g.Chunk, g.Total, len(g.Data)) + g.Data
}

// list is how many l has, and the bytes of each.
func list[X any](l []X, bytes func(X) string) string {
	var b strings.Builder
	b.WriteString(nums(len(l)))
	for _, x := range l {
		b.WriteString(bytes(x))
	}
	return b.String()
}

// body is f's bytes, as the document tells them, ahead of their sealing.
func body(f api.Frame) string {
	return nums(f.From, f.To, f.Boot, f.First, f.Pos, f.Start, f.Ack, f.Grant, f.S, f.T) +
		list(f.Ops, opBytes) + list(f.Reports, reportBytes) + list(f.Entries, entryBytes) + list(f.Gifts, giftBytes)
}

// bytes is f's, as the document tells them, whatever f is.
func bytes(f api.Frame) string { return sealed(body(f)) }

// unparsed wants that s is no frame's.
func unparsed(t *testing.T, what, s string) {
	t.Helper()
	if f, is := frame.Parse(s); is || !equal(f, api.Frame{}) {
		t.Fatalf("%s: Parse of %.100q = %s, %v", what, s, short(f), is)
	}
}

// P15.1: frames whose bytes are known; each field has a place of its own.
func TestPrintOfKnown(t *testing.T) {
	five := api.Op{At: api.Stamp{C: 3, Dev: 1}, Inc: 1, Num: 2, Node: 5, Name: "a"}                     // layer 5's example
	admitted := api.Entry{Kind: 3, Dev: 3, Inc: 2}                                                      // layer 11's
	heard := api.Report{Dev: 1, Inc: 2, Boot: 3, Beat: 4, Mode: 5, Pos: 6, Clock: 7, Sent: 8, Chunk: 9} // one of any numbers
	const fiveBytes, admittedBytes, heardBytes = "\x06\x02\x02\x04\x0a\x00\x02a", "\x06\x06\x04", "\x02\x04\x06\x08\x0a\x0c\x0e\x10\x12"
	for _, c := range []struct {
		f    api.Frame
		want string
	}{
		{api.Frame{}, strings.Repeat("\x00", 14)},
		{least(), "\x00\x00\x00\x02\x00\x02\x00\x00\x00\x00\x00\x00\x00\x00"},
		{
			api.Frame{From: 1, To: 2, Boot: 3, First: 4, Pos: 5, Start: 6, Ack: 7, Grant: 8, S: 9, T: 128},
			"\x02\x04\x06\x08\x0a\x0c\x0e\x10\x12\x80\x02\x00\x00\x00\x00",
		},
		{
			api.Frame{From: -1, To: -2, Boot: -3, First: -4, Pos: -5, Start: -6, Ack: -7, Grant: -8, S: -9, T: -10},
			"\x01\x03\x05\x07\x09\x0b\x0d\x0f\x11\x13\x00\x00\x00\x00",
		},
		{
			api.Frame{Ops: []api.Op{five, five}, Reports: []api.Report{heard}, Entries: []api.Entry{admitted, {Kind: 1, Op: five}, admitted}, Gifts: []api.Gift{{Dev: 2, Inc: 3, Chunk: 4, Total: 5, Data: "xy"}}},
			strings.Repeat("\x00", 10) + "\x04" + fiveBytes + fiveBytes + "\x02" + heardBytes +
				"\x06" + admittedBytes + "\x02" + fiveBytes + admittedBytes + "\x02\x04\x06\x08\x0a\x04xy",
		},
		{api.Frame{Gifts: []api.Gift{{}, {}}}, strings.Repeat("\x00", 13) + "\x04" + strings.Repeat("\x00", 10)},
		{api.Frame{Ops: []api.Op{{}}, Entries: []api.Entry{{}}}, strings.Repeat("\x00", 10) + "\x02" + strings.Repeat("\x00", 7) + "\x00\x02" + strings.Repeat("\x00", 4)},
	} {
		if got := frame.Print(c.f); got != sealed(c.want) {
			t.Errorf("Print(%v) = % x, not % x", c.f, got, sealed(c.want))
		}
	}
	// The seal by hand: 14 bytes, and their sum.
	if got := frame.Print(least()); len(got) != 8+14 || got[:4] != "\x0e\x00\x00\x00" || got[8:] != "\x00\x00\x00\x02\x00\x02\x00\x00\x00\x00\x00\x00\x00\x00" {
		t.Errorf("not sealed: % x", got)
	}
}

// P15.1: Print of any, be it a frame that may be or not.
func TestPrint(t *testing.T) {
	l := append(frames(), wrongs()...)
	wide := least()
	wide.Ops, wide.Reports, wide.Entries, wide.Gifts = row(5000, at), row(300, told), row(5000, entryOf), row(900, giftOf)
	l = append(l, wide)
	for _, g := range wrongGifts() {
		f := apart()
		f.Gifts[1] = g
		l = append(l, f)
	}
	for _, f := range l {
		if got := frame.Print(f); got != bytes(f) {
			t.Fatalf("Print(%s) = %.100q", short(f), got)
		}
	}
}

// P15.1: lists of nothing, nil or empty, are the same bytes.
func TestPrintOfNothing(t *testing.T) {
	f := least()
	f.Ops, f.Reports, f.Entries, f.Gifts = []api.Op{}, []api.Report{}, make([]api.Entry, 0, 9), make([]api.Gift, 0, 9)
	if frame.Print(f) != frame.Print(least()) || !frame.Right(f) {
		t.Error("an empty list isn't as nil")
	}
}

// P15.2: frames go there and back.
func TestParse(t *testing.T) {
	for _, f := range frames() {
		got, is := frame.Parse(bytes(f))
		if !is || !equal(got, f) {
			t.Fatalf("Parse of %s = %s, %v", short(f), short(got), is)
		}
	}
}

// P15.2: all lengths of each list.
func TestParseOfLengths(t *testing.T) {
	for n := range 140 {
		a, b, c, d := apart(), apart(), apart(), apart()
		a.Ops, b.Reports, c.Entries, d.Gifts = row(n, at), row(n, told), row(n, entryOf), row(n, giftOf)
		for i, f := range []api.Frame{a, b, c, d} {
			got, is := frame.Parse(bytes(f))
			want := n <= 8 || n <= 64 && i%2 == 0
			if is != want || want && !equal(got, f) || !want && !equal(got, api.Frame{}) {
				t.Fatalf("%d things in list %d: %s, %v", n, i, short(got), is)
			}
		}
	}
}

// P15.2: frames that may not be, though they are sealed well.
func TestParseOfWrong(t *testing.T) {
	for _, f := range wrongs() {
		unparsed(t, "a wrong frame", bytes(f))
		unparsed(t, "a wrong frame", frame.Print(f))
	}
	for _, g := range wrongGifts() {
		for i := range 4 {
			f := apart()
			f.Gifts[i] = g
			unparsed(t, "a wrong gift", bytes(f))
		}
	}
}

// P15.2: bytes that are cut are none's, wherever, be they sealed again or not.
func TestParseOfCut(t *testing.T) {
	for _, f := range []api.Frame{least(), apart(), most()} {
		text, in := bytes(f), body(f)
		for n := range len(text) {
			unparsed(t, "cut", text[:n])
			unparsed(t, "cut ahead", text[len(text)-n:])
		}
		for n := range len(in) {
			unparsed(t, "cut and sealed", sealed(in[:n]))
		}
	}
}

// P15.2: bytes behind a frame's, or ahead, be they sealed with it or not.
func TestParseOfMore(t *testing.T) {
	for _, f := range []api.Frame{least(), apart(), most()} {
		text, in := bytes(f), body(f)
		for _, more := range []string{"\x00", "\x02", "\xff", "x", strings.Repeat("\x00", 8), sealed(""), text, in} {
			unparsed(t, "more behind", text+more)
			unparsed(t, "more ahead", more+text)
			unparsed(t, "more sealed", sealed(in+more))
		}
		unparsed(t, "not sealed", in)
		unparsed(t, "sealed twice", sealed(text))
	}
	for _, s := range []string{"", "\x00", strings.Repeat("\x00", 8), strings.Repeat("\x00", 22), strings.Repeat("\xff", 22), sealed(""), sealed(strings.Repeat("\x00", 14))} {
		unparsed(t, "no frame", s)
	}
}

// P15.2: more than MaxBytes are never a frame; the greatest frame that may be has far fewer.
func TestParseOfLong(t *testing.T) {
	if n := len(body(most())); n > mostBytes || n < 7000 {
		t.Errorf("the greatest frame has %d bytes", n)
	}
	for _, n := range []int{mostBytes - 1, mostBytes, mostBytes + 1, 1 << 20} {
		unparsed(t, "long", sealed(strings.Repeat("\x00", n)))
		unparsed(t, "long", sealed(strings.Repeat("\x02", n)))
		unparsed(t, "long", sealed(body(apart())+strings.Repeat("\x00", n-len(body(apart())))))
	}
	f := least()
	f.Gifts = []api.Gift{{Inc: 1, Data: strings.Repeat("x", mostBytes)}}
	unparsed(t, "long Data", bytes(f))
}

// P15.2: how many a list has is a number from 0 to its bound, and there are so many.
func TestParseOfWrongHowMany(t *testing.T) {
	head := body(least())[:10]
	// Such that, where fewer are told than there are, the rest is no other list.
	things := []string{opBytes(at(0)), reportBytes(told(4)), entryBytes(entryOf(0)), giftBytes(giftOf(1))}
	for i, thing := range things {
		bound := []int{64, 8, 64, 8}[i]
		for _, n := range append(edges(), 7, 8, 9, 63, 64, 65, 66, 1<<32+1) {
			for _, there := range []int{0, 1, 2, 8, 9, 64, 65} {
				s := sealed(head + strings.Repeat("\x00", i) + nums(n) + strings.Repeat(thing, there) + strings.Repeat("\x00", 3-i))
				f, is := frame.Parse(s)
				has := []int{len(f.Ops), len(f.Reports), len(f.Entries), len(f.Gifts)}[i]
				if want := n == there && n <= bound; is != want || want && has != n || is && frame.Print(f) != s {
					t.Fatalf("list %d: %d told, %d there: %s, %v", i, n, there, short(f), is)
				}
			}
		}
	}
}

// P15.2: a number with more bytes than it needs, or too great a one, is none, in each field.
func TestParseOfWrongBytes(t *testing.T) {
	// Each number of a frame with one of all things; -1 stands for the byte b of a text.
	l := []int{3, 4, 5, 6, 2, 7, 8, 9, 10, 11,
		1, 3, 1, 1, 2, 5, 0, 1, -1,
		1, 3, 1, 4, 5, 2, 6, 7, 8, 9,
		2, 1, 3, 1, 1, 2, 5, 0, 1, -1, 2, 4, 5,
		1, 2, 3, 4, 5, 1, -1}
	text := func(at int, wrong string) string {
		var s string
		for i, n := range l {
			switch {
			case i == at:
				s += wrong
			case n < 0:
				s += "b"
			default:
				s += nums(n)
			}
		}
		return sealed(s)
	}
	for i, n := range l {
		if n < 0 {
			continue
		}
		if f, is := frame.Parse(text(i, nums(n))); !is || len(f.Ops)+len(f.Reports)+len(f.Entries)+len(f.Gifts) != 5 {
			t.Fatalf("%q isn't taken", text(i, nums(n)))
		}
		low := nums(n)[0]
		for _, wrong := range []string{
			string([]byte{low | 128, 0}),
			string([]byte{low | 128, 128, 0}),
			string([]byte{low | 128}) + strings.Repeat("\x80", 8) + "\x02", // 2^64 more
			strings.Repeat("\xff", 12),
			nums(-1 - n),
			"",
		} {
			unparsed(t, "a wrong number", text(i, wrong))
		}
	}
}

// P15.3: each byte of a frame, changed to each other one.
func TestOtherByte(t *testing.T) {
	for _, f := range []api.Frame{least(), apart()} {
		text := []byte(bytes(f))
		for i := range text {
			was := text[i]
			for n := range 256 {
				if byte(n) == was {
					continue
				}
				text[i] = byte(n)
				unparsed(t, "another byte", string(text))
			}
			text[i] = was
		}
		if _, is := frame.Parse(string(text)); !is {
			t.Fatal("not put back")
		}
	}
}

// P15.3: drawn frames, at drawn bytes; up to four of them side by side, too.
func TestOtherBytes(t *testing.T) {
	draw := rand.New(rand.NewSource(153))
	l := frames()
	for range 40000 {
		was := bytes(l[draw.Intn(len(l))])
		b := []byte(was)
		from := draw.Intn(len(b))
		for i := from; i < min(from+1+draw.Intn(4), len(b)); i++ {
			b[i] ^= byte(1 + draw.Intn(255))
		}
		unparsed(t, "other bytes", string(b))
	}
}

// P15.2: what Parse takes is what Print writes, whichever bytes are changed ahead of the sealing.
func TestOneWriting(t *testing.T) {
	draw := rand.New(rand.NewSource(152))
	l := frames()
	l = slices.DeleteFunc(l, func(f api.Frame) bool { return len(body(f)) > 400 })
	taken, refused := 0, 0
	for range 200000 {
		b := []byte(body(l[draw.Intn(len(l))]))
		for range 1 + draw.Intn(2) {
			b[draw.Intn(len(b))] = byte(draw.Intn(256))
		}
		s := sealed(string(b))
		f, is := frame.Parse(s)
		if !is {
			refused++
			if !equal(f, api.Frame{}) {
				t.Fatalf("% x is refused, and %v", b, f)
			}
			continue
		}
		taken++
		if !frame.Right(f) || frame.Print(f) != s || bytes(f) != s {
			t.Fatalf("% x is taken as %v", b, f)
		}
	}
	if taken < 10000 || refused < 10000 {
		t.Errorf("only %d taken, %d refused", taken, refused)
	}
}

// P15.2: of the least frame, all short numbers in each two places: those are taken that are a frame, and no others.
func TestAllShortNumbers(t *testing.T) {
	good := body(least())
	l := numbers()
	may := func(i, low int) bool {
		if low%2 == 1 { // a number below 0
			return false
		}
		if i >= len(l) { // how many a list has; there is none of it
			return low == 0
		}
		return l[i].least <= low/2 && low/2 <= l[i].most
	}
	for i := range good {
		for j := range i {
			for n := range 1 << 14 {
				b := []byte(good)
				b[i], b[j] = byte(n%128), byte(n/128)
				s := sealed(string(b))
				f, is := frame.Parse(s)
				if is != (may(i, n%128) && may(j, n/128)) || is && bytes(f) != s || !is && !equal(f, api.Frame{}) {
					t.Fatalf("Parse of % x = %v, %v", b, f, is)
				}
			}
		}
	}
}

// P15.2: Parse answers new memory: no two lists share any, nor do two readings.
func TestParseAgain(t *testing.T) {
	for _, f := range []api.Frame{apart(), most()} {
		text := bytes(f)
		a, _ := frame.Parse(text)
		clear(a.Ops[:cap(a.Ops)])
		clear(a.Gifts[:cap(a.Gifts)])
		if !slices.Equal(a.Reports, f.Reports) || !slices.Equal(a.Entries, f.Entries) {
			t.Error("lists share memory")
		}
		if b, is := frame.Parse(text); !is || !equal(b, f) {
			t.Errorf("read again: %s", short(b))
		}
	}
}
