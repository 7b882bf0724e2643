package crc_test

import (
	"encoding/binary"
	"hash/crc32"
	"math"
	"math/bits"
	"strings"
	"testing"

	"bargeman/crc"
)

// slow is the sum as the document tells it, bit by bit.
func slow(s string) uint32 {
	n := uint32(math.MaxUint32)
	for _, b := range []byte(s) {
		n ^= uint32(b)
		for range 8 {
			low := n % 2
			n /= 2
			if low == 1 {
				n ^= 0xedb88320
			}
		}
	}
	return math.MaxUint32 - n
}

// sealed is s behind a number and a sum, be they s's own or not.
func sealed(count, sum uint32, s string) string {
	b := binary.LittleEndian.AppendUint32(nil, count)
	return string(binary.LittleEndian.AppendUint32(b, sum)) + s
}

// random answers n bytes that hang on seed alone.
func random(seed uint32, n int) string {
	b := make([]byte, n)
	for i := range b {
		seed = seed*1664525 + 1013904223
		b[i] = byte(seed >> 24)
	}
	return string(b)
}

// texts is bytes of many kinds: none, zeros, all bits, bytes that are no runes, all that there are, and long ones.
func texts() []string {
	l := []string{"", "a", "ab", "abc", "123456789", "\x00", "\xff", "äöü€", "\xc3", "\xe2\x82", "a\x00b",
		strings.Repeat("\x00", 32), strings.Repeat("\xff", 32), crc.Seal("ab"), crc.Seal("")}
	all := make([]byte, 256)
	for i := range all {
		all[i] = byte(i)
	}
	l = append(l, string(all))
	for n := range 40 {
		l = append(l, random(uint32(n), n))
	}
	for _, n := range []int{255, 256, 257, 1000, 65535, 65536, 70000} {
		l = append(l, random(uint32(n), n))
	}
	return l
}

// P2.1: sums that are known from elsewhere.
func TestSumOfKnown(t *testing.T) {
	cases := []struct {
		s    string
		want uint32
	}{
		{"", 0},
		{"a", 0xe8b7be43},
		{"abc", 0x352441c2},
		{"123456789", 0xcbf43926},
		{"The quick brown fox jumps over the lazy dog", 0x414fa339},
		{strings.Repeat("\x00", 32), 0x190a55ad},
		{strings.Repeat("\xff", 32), 0xff6cab0b},
		{"\x9d\x0a\xd9\x6d", 0},
		{"\xff\xff\xff\xff", 0xffffffff},
	}
	for _, c := range cases {
		if got := crc.Sum(c.s); got != c.want {
			t.Errorf("Sum(%q) = %08x, not %08x", c.s, got, c.want)
		}
	}
}

// P2.1: the sum goes bit by bit as it is told, over whatever bytes.
func TestSum(t *testing.T) {
	l := texts()
	for i := range 256 { // each byte alone, and behind another one
		l = append(l, string([]byte{byte(i)}), string([]byte{'x', byte(i)}))
	}
	for _, s := range l {
		if got := crc.Sum(s); got != slow(s) || got != crc32.ChecksumIEEE([]byte(s)) {
			t.Errorf("Sum of %d bytes, %.20q: %08x, not %08x", len(s), s, got, slow(s))
		}
	}
}

// P2.1: a number's four bytes, the lowest first.
func TestFour(t *testing.T) {
	cases := []struct {
		n    uint32
		want string
	}{
		{0, "\x00\x00\x00\x00"},
		{1, "\x01\x00\x00\x00"},
		{127, "\x7f\x00\x00\x00"},
		{128, "\x80\x00\x00\x00"},
		{255, "\xff\x00\x00\x00"},
		{256, "\x00\x01\x00\x00"},
		{258, "\x02\x01\x00\x00"},
		{1 << 16, "\x00\x00\x01\x00"},
		{1 << 24, "\x00\x00\x00\x01"},
		{0x01020304, "\x04\x03\x02\x01"},
		{0x80000000, "\x00\x00\x00\x80"},
		{0xcbf43926, "\x26\x39\xf4\xcb"},
		{math.MaxUint32, "\xff\xff\xff\xff"},
	}
	for _, c := range cases {
		if got := crc.Four(c.n); got != c.want {
			t.Errorf("Four(%d) = %q", c.n, got)
		}
	}
	for i := range 32 {
		n := uint32(1) << i
		want := string(binary.LittleEndian.AppendUint32(nil, n))
		if got := crc.Four(n); got != want {
			t.Errorf("Four(%d) = %q, not %q", n, got, want)
		}
	}
}

// P2.1: a Seal is the number of bytes, their sum, and they.
func TestSeal(t *testing.T) {
	known := []struct{ s, want string }{
		{"", "\x00\x00\x00\x00\x00\x00\x00\x00"},
		{"ab", "\x02\x00\x00\x00\x6d\x48\x83\x9eab"},
		{"123456789", "\x09\x00\x00\x00\x26\x39\xf4\xcb123456789"},
	}
	for _, c := range known {
		if got := crc.Seal(c.s); got != c.want {
			t.Errorf("Seal(%q) = %q", c.s, got)
		}
	}
	for _, s := range append(texts(), strings.Repeat("long", 1<<22)+"er") { // the last one's number has four bytes
		if got := crc.Seal(s); got != sealed(uint32(len(s)), slow(s), s) {
			t.Errorf("Seal of %d bytes, %.20q: %.30q", len(s), s, got)
		}
	}
}

// P2.1: what begins with a Seal is open, and how long the Seal is is told, whatever stands behind it.
func TestOpen(t *testing.T) {
	behind := []string{"", "x", "\x00", "\x9d\x0a\xd9\x6d", crc.Seal("ab"), crc.Seal("ab")[:9], "no seal at all"}
	for _, s := range append(texts(), strings.Repeat("long", 1<<22)+"er") {
		whole := sealed(uint32(len(s)), slow(s), s)
		for _, b := range behind {
			got, n := crc.Open(whole + b)
			if got != s || n != 8+len(s) {
				t.Errorf("Open of the Seal of %d bytes, %.20q, and %q: %.20q, %d", len(s), s, b, got, n)
			}
		}
	}
}

// none wants that s isn't open.
func none(t *testing.T, what, s string) {
	t.Helper()
	if got, n := crc.Open(s); got != "" || n != -1 {
		t.Errorf("%s: Open of %d bytes, %.30q = %.20q, %d", what, len(s), s, got, n)
	}
}

// P2.1: what begins with no Seal isn't open: too short, of a wrong number or sum, or in another order.
func TestOpenOfNone(t *testing.T) {
	for n := range 8 {
		none(t, "zeros", strings.Repeat("\x00", n))
		none(t, "ones", strings.Repeat("\xff", n))
		none(t, "letters", "abcdefgh"[:n])
	}
	none(t, "letters", "abcdefgh")
	none(t, "behind a byte", "x"+crc.Seal("ab"))
	s := "123456789"
	sum := slow(s)
	none(t, "highest first", "\x00\x00\x00\x09\xcb\xf4\x39\x26"+s)
	none(t, "the sum first", crc.Four(sum)+crc.Four(9)+s)
	none(t, "bytes first", s+crc.Four(9)+crc.Four(sum))
	none(t, "sum not turned", sealed(9, ^sum, s))
	none(t, "the number summed, too", sealed(9, slow(crc.Four(9)+s), s))
	none(t, "the head counted", sealed(17, sum, s))
	for _, count := range []uint32{0, 1, 8, 10, 11, 17, 256, 1 << 16, math.MaxInt32 - 8, math.MaxInt32, 1 << 31, 1<<31 + 9, math.MaxUint32 - 8, math.MaxUint32 - 7, math.MaxUint32} {
		none(t, "a wrong number", sealed(count, sum, s))
	}
	for _, other := range []uint32{0, sum - 1, sum + 1, bits.ReverseBytes32(sum), bits.Reverse32(sum), math.MaxUint32} {
		none(t, "a wrong sum", sealed(9, other, s))
	}
}

// P2.1: a head with more, as many, or fewer bytes behind it than it tells is open just where a Seal stands there.
func TestOpenOfHeads(t *testing.T) {
	for length := range 12 {
		s := random(uint32(length)+7, length)
		for count := range 14 {
			for of := range length + 1 {
				in := sealed(uint32(count), slow(s[:of]), s)
				if count == of {
					if got, n := crc.Open(in); got != s[:of] || n != 8+of {
						t.Errorf("Open(%q) = %q, %d", in, got, n)
					}
				} else {
					none(t, "another's sum", in)
				}
			}
		}
	}
}

// P2.1: what stands behind a Seal counts for nothing, also where all of it is another Seal with its number changed.
func TestOpenGoesByTheBeginning(t *testing.T) {
	same := "\x9d\x0a\xd9\x6d" // its sum is 0, as that of nothing
	if got, n := crc.Open(crc.Seal(same)); got != same || n != 12 {
		t.Errorf("Open of its Seal: %q, %d", got, n)
	}
	if got, n := crc.Open(crc.Seal("") + same); got != "" || n != 8 {
		t.Errorf("Open of the Seal of nothing, and it: %q, %d", got, n)
	}
}

// P2.1: Seals that stand one behind the other are opened in their order.
func TestOpenInRow(t *testing.T) {
	var row string
	for _, s := range texts() {
		row += crc.Seal(s)
	}
	for i, s := range texts() {
		got, n := crc.Open(row)
		if got != s || n != 8+len(s) {
			t.Fatalf("%d: %.20q, %d", i, got, n)
		}
		row = row[n:]
	}
	none(t, "behind the last one", row)
}

// P2.2: what is cut isn't open.
func TestCut(t *testing.T) {
	for _, s := range texts() {
		whole := crc.Seal(s)
		for n := range min(len(whole), 300) {
			none(t, "the beginning", whole[:n])
			none(t, "all but the end", whole[:len(whole)-1-n])
		}
	}
}

// changed is s with the bytes from place on mixed with those of by.
func changed(s string, place int, by []byte) string {
	b := []byte(s)
	for i, x := range by {
		b[place+i] ^= x
	}
	return string(b)
}

// P2.2: with one byte another one, at whatever place, it isn't open.
func TestOneByteChanged(t *testing.T) {
	for _, s := range []string{"", "a", "ab", "123456789", strings.Repeat("\x00", 20), random(1, 40)} {
		whole := crc.Seal(s)
		for place := range len(whole) {
			for x := 1; x < 256; x++ {
				none(t, "one byte changed", changed(whole, place, []byte{byte(x)}))
			}
		}
	}
}

// P2.2: with two bytes side by side others, whichever they become, it isn't open.
func TestTwoBytesChanged(t *testing.T) {
	whole := crc.Seal("123456789")
	for place := range len(whole) - 1 {
		for x := 1; x < 1<<16; x++ {
			none(t, "two bytes changed", changed(whole, place, []byte{byte(x), byte(x >> 8)}))
		}
	}
}

// P2.2: with three or four bytes side by side others it isn't open: each bit of them alone, all pairs of them, and many more.
func TestFourBytesChanged(t *testing.T) {
	var masks []uint32
	for i := range 32 {
		for j := range i + 1 {
			masks = append(masks, 1<<i|1<<j)
		}
	}
	for x, i := uint32(1), 0; i < 3000; i++ {
		x = x*1664525 + 1013904223
		masks = append(masks, x, x>>8)
	}
	masks = append(masks, 0xedb88320, 0x04c11db7, 0xdebb20e3, math.MaxUint32)
	for _, s := range []string{"", "1", "123456789", strings.Repeat("\x00", 30), random(2, 60)} {
		whole := crc.Seal(s)
		for place := range len(whole) - 3 {
			for _, m := range masks {
				none(t, "four bytes changed", changed(whole, place, binary.LittleEndian.AppendUint32(nil, m)))
			}
		}
	}
}

// P2.2: other bytes in place of the sealed ones, or of their sum, are never open, since each such change changes the sum.
func TestSealedBytesChanged(t *testing.T) {
	for _, n := range []int{4, 5, 17, 300, 2000} {
		whole := crc.Seal(random(uint32(n), n))
		for place := 4; place <= len(whole)-4; place++ {
			if place > 4 && place < 8 { // some of both: the changed bytes may have the changed sum
				continue
			}
			seed := uint32(place)
			for range 20 {
				seed = seed*1664525 + 1013904223
				none(t, "four bytes changed", changed(whole, place, binary.LittleEndian.AppendUint32(nil, seed)))
			}
		}
	}
}
