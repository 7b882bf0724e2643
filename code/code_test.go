package code_test

import (
	"encoding/binary"
	"math"
	"math/big"
	"strings"
	"testing"

	"bargeman/code"
)

// mostBytes is the document's limit, written out: the tests shall not follow a limit that is changed.
const mostBytes = 65536

// slow is a number's bytes as the document tells them, reckoned without any bound.
func slow(n int) string {
	u := big.NewInt(int64(n))
	if u.Sign() < 0 {
		u.Sub(big.NewInt(-1), u)
		u.Add(u.Lsh(u, 1), big.NewInt(1))
	} else {
		u.Lsh(u, 1)
	}
	var b []byte
	for {
		rest, low := new(big.Int).DivMod(u, big.NewInt(128), new(big.Int))
		if rest.Sign() == 0 {
			return string(append(b, byte(low.Int64())))
		}
		b = append(b, byte(low.Int64())+128)
		u = rest
	}
}

// numbers is those near 0, and those around each power of two, on both sides, with the ends.
func numbers() []int {
	l := []int{math.MinInt, math.MinInt + 1, math.MaxInt - 1, math.MaxInt, 1 << 40, 1<<40 + 1}
	for n := -20000; n <= 20000; n++ {
		l = append(l, n)
	}
	for i := range 63 {
		for d := -2; d <= 2; d++ {
			l = append(l, 1<<i+d, -1<<i+d) // may wrap, to numbers as good
		}
	}
	x := uint64(1)
	for i := range 2000 {
		x = x*6364136223846793005 + 1442695040888963407
		l = append(l, int(x)>>(i%64))
	}
	return l
}

// texts is bytes of many kinds and lengths, those at which their length needs another byte among them.
func texts() []string {
	l := []string{"", "a", "ab", "\x00", "\x80", "\xff", "\x02a", "äöü€", "\xc3", "\xe2\x82", "a\x00b", "a b/~"}
	for _, n := range []int{63, 64, 65, 127, 128, 8191, 8192, mostBytes - 1, mostBytes, mostBytes + 1, 1 << 20, 1<<20 + 1} {
		l = append(l, strings.Repeat("x", n), strings.Repeat("\xff", n))
	}
	return l
}

// kind is one of the methods that read, with what it is asked for, and its answer as one of any kind.
type kind struct {
	name string
	zero any
	read func(r *code.Reader) any
}

// kinds is each method, with bounds at which it takes what others take, and at the ends.
func kinds() []kind {
	l := []kind{
		{"Num", 0, func(r *code.Reader) any { return r.Num() }},
		{"Bool", false, func(r *code.Reader) any { return r.Bool() }},
	}
	for _, most := range []int{math.MinInt, math.MinInt + 1, -1, 0, 1, 5, mostBytes, math.MaxInt - 1, math.MaxInt} {
		l = append(l,
			kind{"Text", "", func(r *code.Reader) any { return r.Text(most) }},
			kind{"Count", 0, func(r *code.Reader) any { return r.Count(most) }})
	}
	return l
}

// wrong wants that it reads nothing in s, and goes wrong by it.
func wrong(t *testing.T, what, s string, k kind) {
	t.Helper()
	r := &code.Reader{S: s}
	if got := k.read(r); got != k.zero || !r.Bad || r.Done() || r.S != s {
		t.Errorf("%s: %s of %.30q = %v, Bad %v, Done %v", what, k.name, s, got, r.Bad, r.Done())
	}
}

// right wants that it reads want in s, at its beginning and behind other bytes, goes on behind it, and leaves the rest.
func right(t *testing.T, s string, want any, k kind) {
	t.Helper()
	for _, ahead := range []string{"", "\x80", "ahead"} {
		for _, behind := range []string{"", "\x00", "\xff", "\x02a"} {
			r := &code.Reader{S: ahead + s + behind, At: len(ahead)}
			got := k.read(r)
			if got != want || r.Bad || r.At != len(ahead)+len(s) || r.Done() != (behind == "") {
				t.Errorf("%s of %.30q, between %q and %q: not what stands there; At %d, Bad %v, Done %v", k.name, s, ahead, behind, r.At, r.Bad, r.Done())
			}
		}
	}
}

func num() kind { return kinds()[0] }

func boolean() kind { return kinds()[1] }

func text(most int) kind {
	return kind{"Text", "", func(r *code.Reader) any { return r.Text(most) }}
}

func count(most int) kind {
	return kind{"Count", 0, func(r *code.Reader) any { return r.Count(most) }}
}

// known is numbers with their bytes, as the words give them.
var known = []struct {
	n int
	s string
}{
	{0, "\x00"}, {-1, "\x01"}, {1, "\x02"}, {-2, "\x03"}, {2, "\x04"}, {-3, "\x05"}, {3, "\x06"},
	{62, "\x7c"}, {-63, "\x7d"}, {63, "\x7e"}, {-64, "\x7f"},
	{64, "\x80\x01"}, {-65, "\x81\x01"}, {128, "\x80\x02"}, {-129, "\x81\x02"},
	{8191, "\xfe\x7f"}, {-8192, "\xff\x7f"}, {8192, "\x80\x80\x01"}, {-8193, "\x81\x80\x01"},
	{1 << 40, "\x80\x80\x80\x80\x80\x40"},
	{1<<62 - 1, "\xfe\xff\xff\xff\xff\xff\xff\xff\x7f"}, {-1 << 62, "\xff\xff\xff\xff\xff\xff\xff\xff\x7f"},
	{1 << 62, "\x80\x80\x80\x80\x80\x80\x80\x80\x80\x01"},
	{math.MaxInt, "\xfe\xff\xff\xff\xff\xff\xff\xff\xff\x01"},
	{math.MinInt, "\xff\xff\xff\xff\xff\xff\xff\xff\xff\x01"},
}

// P3.1: numbers whose bytes are known.
func TestNumOfKnown(t *testing.T) {
	for _, c := range known {
		if got := code.Num(c.n); got != c.s {
			t.Errorf("Num(%d) = % x, not % x", c.n, got, c.s)
		}
	}
}

// P3.1: a number's bytes, whichever it is: 2n or 2(-1 - n) + 1, seven bits a byte, the lowest first.
func TestNum(t *testing.T) {
	for _, n := range numbers() {
		got := code.Num(n)
		if got != slow(n) || got != string(binary.AppendVarint(nil, int64(n))) {
			t.Errorf("Num(%d) = % x, not % x", n, got, slow(n))
		}
	}
}

// P3.1: no more bytes than are needed, one at least, ten at most; all but the last one have the highest bit set.
func TestNumsBytes(t *testing.T) {
	for _, n := range numbers() {
		s := code.Num(n)
		if len(s) < 1 || len(s) > 10 {
			t.Fatalf("Num(%d) has %d bytes", n, len(s))
		}
		last := len(s) - 1
		for i := range len(s) {
			if s[i] >= 128 != (i < last) {
				t.Errorf("Num(%d) = % x", n, s)
			}
		}
		if last > 0 && s[last] == 0 {
			t.Errorf("Num(%d) = % x has a byte that isn't needed", n, s)
		}
	}
}

// P3.1: a text's bytes are those of its length in bytes, and it.
func TestText(t *testing.T) {
	cases := []struct{ s, want string }{
		{"", "\x00"}, {"ab", "\x04ab"}, {"€", "\x06\xe2\x82\xac"}, {"\xff", "\x02\xff"}, {"\x00\x00", "\x04\x00\x00"},
	}
	for _, c := range cases {
		if got := code.Text(c.s); got != c.want {
			t.Errorf("Text(%q) = %q", c.s, got)
		}
	}
	for _, s := range texts() {
		if got := code.Text(s); got != slow(len(s))+s {
			t.Errorf("Text of %d bytes, %.20q: %.30q", len(s), s, got)
		}
	}
}

// P3.1: a bool's bytes are those of 1 or 0.
func TestBit(t *testing.T) {
	if yes, no := code.Bit(true), code.Bit(false); yes != "\x02" || no != "\x00" {
		t.Errorf("Bit: %q, %q", yes, no)
	}
}

// P3.1: Least goes by bytes, up to MaxBytes.
func TestLeast(t *testing.T) {
	cases := []struct {
		n    int
		want bool
	}{{0, true}, {1, true}, {mostBytes - 1, true}, {mostBytes, true}, {mostBytes + 1, false}, {2 * mostBytes, false}, {1 << 24, false}}
	for _, c := range cases {
		if got := code.Least(strings.Repeat("x", c.n)); got != c.want {
			t.Errorf("Least of %d bytes: %v", c.n, got)
		}
		if got := code.Least(strings.Repeat("\x00", c.n)); got != c.want {
			t.Errorf("Least of %d zeros: %v", c.n, got)
		}
	}
	if code.Least(strings.Repeat("€", mostBytes/3+1)) || !code.Least(strings.Repeat("€", mostBytes/3)) {
		t.Error("Least doesn't count bytes")
	}
}

// P3.2: Num reads a number, whichever it is, wherever it stands.
func TestReadNum(t *testing.T) {
	for _, c := range known {
		right(t, c.s, c.n, num())
	}
	for _, n := range numbers() {
		right(t, slow(n), n, num())
	}
}

// notNumbers is what no number's bytes begin: cut ones, such with a byte that isn't needed, and such of 2^64 or more.
func notNumbers() []string {
	l := []string{
		"", "\x80", "\xff", "\x80\x80", "\x80\x00", "\x81\x00", "\xff\x00", "\x80\x80\x00", "\xff\xff\x00", "\x82\x80\x00", "\x80\x00\x01",
	}
	for _, b := range []string{"\x80", "\xff", "\x81", "\xfe"} {
		for n := range 20 {
			l = append(l, strings.Repeat(b, n))           // no last byte
			l = append(l, strings.Repeat(b, n+1)+"\x00")  // a last one that isn't needed
			l = append(l, strings.Repeat(b, n+10)+"\x01") // an eleventh one, and more
			l = append(l, strings.Repeat(b, n+10)+"\x00")
		}
		for last := 2; last < 256; last++ { // the tenth byte has room for one bit
			l = append(l, strings.Repeat(b, 9)+string([]byte{byte(last)}), strings.Repeat(b, 9)+string([]byte{byte(last), 1}))
		}
	}
	for _, c := range known {
		l = append(l, c.s[:len(c.s)-1]) // cut
		l = append(l, c.s[:len(c.s)-1]+string([]byte{c.s[len(c.s)-1] | 128, 0}))
	}
	return l
}

// P3.2: where no number stands, each method goes wrong, whatever its bound.
func TestNoNumber(t *testing.T) {
	for _, s := range notNumbers() {
		for _, k := range kinds() {
			wrong(t, "no number", s, k)
		}
	}
}

// P3.2: Text reads a text of as many bytes as it may have, and of fewer.
func TestReadText(t *testing.T) {
	for _, s := range texts() {
		for _, most := range []int{len(s), len(s) + 1, 2*len(s) + 7, math.MaxInt - 1, math.MaxInt} {
			right(t, slow(len(s))+s, s, text(most))
		}
	}
}

// P3.2: Text goes wrong at a text of more bytes, whatever the bound, also of a bound below 0.
func TestReadTextTooLong(t *testing.T) {
	for _, s := range texts() {
		for _, most := range []int{len(s) - 1, len(s) / 2, 1, 0, -1, -2, math.MinInt + 1, math.MinInt} {
			if most < len(s) {
				wrong(t, "a text too long", slow(len(s))+s, text(most))
			}
		}
	}
}

// P3.2: Text goes wrong where bytes are missing, and at lengths that no text has.
func TestReadTextOfNone(t *testing.T) {
	for _, s := range texts() {
		whole := slow(len(s)) + s
		for _, n := range []int{0, 1, 2, len(s) / 2, len(s) - 1} {
			if 0 <= n && n < len(s) {
				wrong(t, "a text that is cut", whole[:len(whole)-len(s)+n], text(len(s)))
				wrong(t, "a text that is cut", whole[:len(whole)-len(s)+n], text(math.MaxInt))
			}
		}
	}
	for _, n := range []int{-1, -2, -3, -64, -65, math.MinInt, math.MinInt + 1, 7, 64, 1 << 31, 1 << 32, 1 << 40, 1 << 62, math.MaxInt - 1, math.MaxInt} {
		for _, behind := range []string{"", "a", "abcdef"} {
			for _, most := range []int{math.MinInt, -1, 0, 6, mostBytes, math.MaxInt - 1, math.MaxInt} {
				wrong(t, "no text's length", slow(n)+behind, text(most))
			}
		}
	}
}

// P3.2: Bool reads 0 and 1, and no other number.
func TestReadBool(t *testing.T) {
	right(t, "\x00", false, boolean())
	right(t, "\x02", true, boolean())
	for _, n := range numbers() {
		if n != 0 && n != 1 {
			wrong(t, "no bool", slow(n), boolean())
		}
	}
	for _, s := range []string{"\x01", "\x03", "\x80\x00", "\x82\x00", "true", "1"} {
		wrong(t, "no bool", s, boolean())
	}
}

// P3.2: Count reads the numbers from 0 to its bound, and no others.
func TestReadCount(t *testing.T) {
	ends := []int{math.MinInt, math.MinInt + 1, -2, -1, 0, 1, 2, 5, 6, 63, 64, 65, 127, 128, mostBytes - 1, mostBytes, mostBytes + 1, 1 << 40, 1 << 62, math.MaxInt - 1, math.MaxInt}
	for _, most := range ends {
		for _, n := range ends {
			if 0 <= n && n <= most {
				right(t, slow(n), n, count(most))
			} else {
				wrong(t, "a count out of its bound", slow(n), count(most))
			}
		}
	}
}

// P3.2: things that stand one behind the other are read in their order, and then it is done; each method leaves Done false before.
func TestReadInRow(t *testing.T) {
	s := "\x05\x80\x02\x02a\x02\x0c\x00\x00\xff\xff\xff\xff\xff\xff\xff\xff\xff\x01"
	r := &code.Reader{S: s}
	var at []int
	step := func(what string, good bool) {
		t.Helper()
		at = append(at, r.At)
		if !good || r.Bad || r.Done() != (len(at) == 8) {
			t.Fatalf("%s: At %d, Bad %v, Done %v", what, r.At, r.Bad, r.Done())
		}
	}
	step("number", r.Num() == -3)
	step("number of two bytes", r.Num() == 128)
	step("text", r.Text(9) == "a")
	step("bool", r.Bool())
	step("count", r.Count(6) == 6)
	step("no", !r.Bool())
	step("nothing", r.Text(0) == "")
	step("the least number", r.Num() == math.MinInt)
	for i, want := range []int{1, 3, 5, 6, 7, 8, 9, 19} {
		if at[i] != want {
			t.Errorf("behind thing %d: At %d, not %d", i, at[i], want)
		}
	}
	if r.Num() != 0 || !r.Bad || r.Done() {
		t.Error("it reads on behind the end")
	}
}

// P3.2: Done tells, and changes nothing.
func TestDone(t *testing.T) {
	r := &code.Reader{}
	if !r.Done() || *r != (code.Reader{}) {
		t.Errorf("nothing: Done false, or %#v", *r)
	}
	r = &code.Reader{S: "\x02"}
	if r.Done() || *r != (code.Reader{S: "\x02"}) {
		t.Errorf("one byte: Done, or %#v", *r)
	}
	if r.Num() != 1 || !r.Done() || !r.Done() || r.Bad {
		t.Errorf("behind it: %#v", *r)
	}
	for _, s := range []string{"", "\x02"} {
		for at := range len(s) + 1 {
			r = &code.Reader{S: s, At: at, Bad: true}
			if r.Done() || !r.Bad {
				t.Errorf("behind Bad: %#v", *r)
			}
		}
	}
}

// P3.2: what went wrong stays so: each method answers its zero value, though what it asks for stands there.
func TestBehindBad(t *testing.T) {
	for _, k := range kinds() {
		for _, s := range []string{"", "\x00", "\x02", "\x02a", "\x02aaaa", "\x0a12345"} {
			r := &code.Reader{S: s, Bad: true}
			if got := k.read(r); got != k.zero || !r.Bad || r.Done() {
				t.Errorf("%s of %q behind Bad = %v, %#v", k.name, s, got, *r)
			}
		}
	}
	for _, first := range kinds() {
		for _, then := range kinds() {
			r := &code.Reader{S: "\x80\x00\x02\x02\x02\x02"}
			first.read(r)
			for range 6 {
				if got := then.read(r); got != then.zero || !r.Bad || r.Done() {
					t.Errorf("%s behind a wrong %s = %v, %#v", then.name, first.name, got, *r)
				}
			}
		}
	}
	r := &code.Reader{S: "\x04\x02a\x02"} // a bool of 2, and right things behind it
	if r.Bool() || r.Text(9) != "" || r.Bool() || r.Num() != 0 || r.Count(9) != 0 || !r.Bad || r.Done() {
		t.Errorf("behind a wrong bool: %#v", *r)
	}
}

// P3.2: nothing stands at a place that is outside; no method panics there.
func TestOutside(t *testing.T) {
	for _, s := range []string{"", "\x02", "\x02a\x00\x00"} {
		for _, at := range []int{math.MinInt, math.MinInt + 1, -2, -1, len(s), len(s) + 1, len(s) + 2, math.MaxInt - 1, math.MaxInt} {
			for _, k := range kinds() {
				r := &code.Reader{S: s, At: at}
				if got := k.read(r); got != k.zero || !r.Bad || r.Done() {
					t.Errorf("%s of %q at %d = %v, %#v", k.name, s, at, got, *r)
				}
			}
			r := &code.Reader{S: s, At: at}
			if r.Done() != (at >= len(s)) {
				t.Errorf("Done of %q at %d", s, at)
			}
		}
	}
}

// one wants that s, where it is a number's bytes, is those that Num writes.
func one(t *testing.T, s string) {
	t.Helper()
	r := &code.Reader{S: s}
	n := r.Num()
	if r.Bad && n != 0 {
		t.Fatalf("% x is none, and %d", s, n)
	}
	if !r.Bad && code.Num(n) != s[:r.At] {
		t.Fatalf("% x is %d, and so is % x", s[:r.At], n, code.Num(n))
	}
}

// P3.3: each number has just one writing: of all bytes, up to three, none but Num's own are read.
func TestOneWriting(t *testing.T) {
	seen := map[int]string{}
	for x := range 1 << 22 { // a third byte counts only where two have the highest bit set
		one(t, string([]byte{byte(x) | 128, byte(x>>7) | 128, byte(x >> 14)}))
	}
	for x := range 1 << 16 {
		for _, s := range []string{string([]byte{byte(x)}), string([]byte{byte(x), byte(x >> 8)})} {
			r := &code.Reader{S: s}
			n := r.Num()
			if !r.Done() {
				continue
			}
			if o, is := seen[n]; is && o != s {
				t.Fatalf("%d is % x, and % x", n, o, s)
			}
			seen[n] = s
		}
	}
	if len(seen) != 1<<14 {
		t.Errorf("%d numbers of up to two bytes, not %d", len(seen), 1<<14)
	}
}

// P3.3: of long writings, too: up to twelve bytes, those of the edges in the places of the last ones.
func TestOneLongWriting(t *testing.T) {
	edges := []byte{0x00, 0x01, 0x02, 0x7f, 0x80, 0x81, 0xfe, 0xff}
	for _, b := range edges {
		for n := range 10 {
			ahead := strings.Repeat(string([]byte{b}), n)
			for x := range 1 << 9 {
				one(t, ahead+string([]byte{edges[x&7], edges[x>>3&7], edges[x>>6]}))
			}
		}
	}
}

// P3.3: numbers, texts and bools go there and back, each by itself, and all of them in one row.
func TestThereAndBack(t *testing.T) {
	var row strings.Builder
	for i, n := range numbers() {
		row.WriteString(code.Num(n) + code.Bit(i%3 == 0))
	}
	for _, s := range texts() {
		row.WriteString(code.Text(s))
	}
	r := &code.Reader{S: row.String()}
	for i, n := range numbers() {
		if got, yes := r.Num(), r.Bool(); got != n || yes != (i%3 == 0) {
			t.Fatalf("%d comes back as %d, %v", n, got, yes)
		}
	}
	for _, s := range texts() {
		if r.Text(len(s)) != s {
			t.Fatalf("a text of %d bytes, %.20q, doesn't come back", len(s), s)
		}
	}
	if !r.Done() {
		t.Errorf("At %d of %d, Bad %v", r.At, len(r.S), r.Bad)
	}
}
