package report_test

import (
	"encoding/binary"
	"math"
	"math/rand"
	"strings"
	"testing"

	"bargeman/api"
	"bargeman/code"
	"bargeman/report"
)

// bytes is r's, as the document tells them, whatever r is.
func bytes(r api.Report) string {
	return nums(r.Dev, r.Inc, r.Boot, r.Beat, r.Mode, r.Pos, r.Clock, r.Sent, r.Chunk)
}

// nums is the numbers' bytes, one behind the other.
func nums(l ...int) string {
	var b []byte
	for _, n := range l {
		b = binary.AppendVarint(b, int64(n))
	}
	return string(b)
}

// unread wants that Read finds no report at the beginning of s, with other bytes ahead, too.
func unread(t *testing.T, what, s string) {
	t.Helper()
	for _, ahead := range []string{"", "\x80", bytes(apart())} {
		r := &code.Reader{S: ahead + s, At: len(ahead)}
		if got := report.Read(r); got != (api.Report{}) || !r.Bad || r.Done() || r.S != ahead+s {
			t.Fatalf("%s: Read of %.80q behind %q = %v, Bad %v", what, s, ahead, got, r.Bad)
		}
	}
}

// P14.1: reports whose bytes are known; each field has a place of its own.
func TestPrintOfKnown(t *testing.T) {
	for _, c := range []struct {
		r    api.Report
		want string
	}{
		{api.Report{}, "\x00\x00\x00\x00\x00\x00\x00\x00\x00"},
		{least(), "\x00\x02\x00\x00\x02\x00\x00\x00\x00"},
		{apart(), "\x06\x08\x0a\x0c\x04\x8c\x01\xc0\x0c\x12\x14"},
		{api.Report{Dev: 1, Inc: 2, Boot: 3, Beat: 4, Mode: 5, Pos: 6, Clock: 7, Sent: 8, Chunk: 9}, "\x02\x04\x06\x08\x0a\x0c\x0e\x10\x12"},
		{api.Report{Dev: -1, Inc: -2, Boot: -3, Beat: -4, Mode: -5, Pos: -6, Clock: -7, Sent: -8, Chunk: 128}, "\x01\x03\x05\x07\x09\x0b\x0d\x0f\x80\x02"},
		{most(), "\x16" + strings.Repeat("\x80\x80\x80\x80\x80\x40", 3) + "\x04" + strings.Repeat("\x80\x80\x80\x80\x80\x40", 4)},
	} {
		if got := report.Print(c.r); got != c.want {
			t.Errorf("Print(%v) = % x, not % x", c.r, got, c.want)
		}
	}
}

// P14.1: Print of any, be it a report that may be or not.
func TestPrint(t *testing.T) {
	for _, r := range append(reports(), wrongs()...) {
		if got := report.Print(r); got != bytes(r) {
			t.Fatalf("Print(%v) = % x", r, got)
		}
	}
}

// P14.2: Read reads a report wherever it stands, goes on behind it, and leaves the rest.
func TestRead(t *testing.T) {
	for _, x := range reports() {
		text := bytes(x)
		for _, ahead := range []string{"", "\x80", "ahead"} {
			for _, behind := range []string{"", "\x00", "\xff", text} {
				r := &code.Reader{S: ahead + text + behind, At: len(ahead)}
				got := report.Read(r)
				if got != x || r.Bad || r.At != len(ahead)+len(text) || r.Done() != (behind == "") || r.S != ahead+text+behind {
					t.Fatalf("Read of %v between %q and %q = %v, %#v", x, ahead, behind, got, *r)
				}
			}
		}
	}
}

// P14.2: reports in one row, with other things between, are read in their order.
func TestReadInRow(t *testing.T) {
	l := reports()
	var text strings.Builder
	for i, x := range l {
		text.WriteString(bytes(x) + code.Num(i))
	}
	r := &code.Reader{S: text.String()}
	for i, x := range l {
		if got, n := report.Read(r), r.Num(); got != x || n != i {
			t.Fatalf("thing %d: %v, %d, not %v", i, got, n, x)
		}
	}
	if !r.Done() {
		t.Errorf("At %d of %d, Bad %v", r.At, len(r.S), r.Bad)
	}
	if got := report.Read(r); got != (api.Report{}) || !r.Bad {
		t.Errorf("behind the end: %v", got)
	}
}

// P14.2: each field outside, alone; the other numbers stand there.
func TestReadOfWrong(t *testing.T) {
	for _, x := range wrongs() {
		unread(t, "a wrong report", bytes(x))
		unread(t, "a wrong report", bytes(x)+bytes(least()))
	}
}

// P14.2: bytes that are cut are none's, wherever.
func TestReadOfCut(t *testing.T) {
	for _, x := range reports() {
		text := bytes(x)
		for n := range len(text) {
			unread(t, "cut", text[:n])
		}
	}
}

// P14.2: a number with more bytes than it needs, or too great a one, is none, in each field.
func TestReadOfWrongBytes(t *testing.T) {
	numbers := []int{3, 4, 5, 6, 2, 7, 8, 9, 10}
	for i, n := range numbers {
		low := code.Num(n)[0]
		for _, wrong := range []string{
			string([]byte{low | 128, 0}),
			string([]byte{low | 128, 128, 0}),
			string([]byte{low | 128}) + strings.Repeat("\x80", 8) + "\x02", // 2^64 more
			strings.Repeat("\xff", 12),
			"",
		} {
			text := nums(numbers[:i]...) + wrong + nums(numbers[i+1:]...)
			unread(t, "a wrong number", text)
			if wrong != "" { // else the number behind stands in its place
				unread(t, "a wrong number", text+strings.Repeat("\x02", 20))
			}
		}
	}
	r := &code.Reader{S: nums(numbers...)}
	if got := report.Read(r); !report.Right(got) || !r.Done() {
		t.Errorf("the numbers themselves: %v", got)
	}
}

// P14.2: behind Bad, and at places outside, nothing is read, though a report stands there.
func TestReadBehindBad(t *testing.T) {
	for _, x := range []api.Report{least(), apart(), most()} {
		text := bytes(x)
		r := &code.Reader{S: text, Bad: true}
		if got := report.Read(r); got != (api.Report{}) || !r.Bad {
			t.Errorf("behind Bad: %v, %#v", got, *r)
		}
		r = &code.Reader{S: "\x04" + text}
		if r.Bool(); report.Read(r) != (api.Report{}) || !r.Bad {
			t.Errorf("behind a wrong bool: %#v", *r)
		}
		r = &code.Reader{S: bytes(api.Report{}) + text}
		if report.Read(r); report.Read(r) != (api.Report{}) || r.Num() != 0 || !r.Bad || r.Done() {
			t.Errorf("behind a wrong report: %#v", *r)
		}
		for _, place := range []int{math.MinInt, -1, len(text), len(text) + 1, math.MaxInt - 1, math.MaxInt} {
			r = &code.Reader{S: text, At: place}
			if got := report.Read(r); got != (api.Report{}) || !r.Bad {
				t.Errorf("at %d: %v, %#v", place, got, *r)
			}
		}
	}
}

// P14.2: bytes go there and back: what Read takes is what Print writes, whichever bytes are changed.
func TestOneWriting(t *testing.T) {
	l := reports()
	draw := rand.New(rand.NewSource(142))
	taken, refused := 0, 0
	for range 200000 {
		b := []byte(bytes(l[draw.Intn(len(l))]))
		for range 1 + draw.Intn(2) {
			b[draw.Intn(len(b))] = byte(draw.Intn(256))
		}
		r := &code.Reader{S: string(b)}
		x := report.Read(r)
		if r.Bad {
			refused++
			if x != (api.Report{}) {
				t.Fatalf("% x is refused, and %v", b, x)
			}
			continue
		}
		taken++
		if !report.Right(x) || report.Print(x) != string(b[:r.At]) {
			t.Fatalf("% x is taken as %v", b, x)
		}
	}
	if taken < 10000 || refused < 10000 {
		t.Errorf("only %d taken, %d refused", taken, refused)
	}
}

// P14.2: all bytes of each two fields that are short, the others as they may be: those are taken that are a report, and no others.
func TestAllShortBytes(t *testing.T) {
	good := bytes(api.Report{Dev: 3, Inc: 4, Boot: 5, Beat: 6, Mode: joining, Pos: 7, Clock: 8, Sent: 9, Chunk: 10})
	l := fields()
	may := func(i int, b byte) bool {
		n := int(b / 2)
		return b < 128 && b%2 == 0 && l[i].least <= n && n <= l[i].most
	}
	for i := range l {
		for j := range i {
			for n := range 1 << 16 {
				b := []byte(good)
				b[i], b[j] = byte(n), byte(n>>8)
				r := &code.Reader{S: string(b)}
				x := report.Read(r)
				want := may(i, b[i]) && may(j, b[j])
				if r.Done() != want || want && bytes(x) != r.S || r.Bad && x != (api.Report{}) {
					t.Fatalf("Read of % x = %v, Bad %v", b, x, r.Bad)
				}
			}
		}
	}
}
