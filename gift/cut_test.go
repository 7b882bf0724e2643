package gift_test

import (
	"math"
	"math/rand"
	"strings"
	"testing"

	"bargeman/api"
	"bargeman/gift"
)

// pieces is s in pieces, made one byte at a time.
func pieces(s string, size int) []string {
	l := []string{""}
	for i := range len(s) {
		if len(l[len(l)-1]) == size {
			l = append(l, "")
		}
		l[len(l)-1] += s[i : i+1]
	}
	return l
}

// texts is such of all lengths up to forty, with bytes that are no runes, and whose halves are none.
func texts() []string {
	l := []string{"", "\x00", "\xff\xfe", "éàü", "日本語", "\x00\x00\x00\x00"}
	draw := rand.New(rand.NewSource(17))
	for n := range 40 {
		b := make([]byte, n)
		draw.Read(b)
		l = append(l, string(b))
	}
	return l
}

// P17.1: how many pieces, by hand.
func TestChunks(t *testing.T) {
	const long = 1 << 16
	for _, c := range []struct {
		s          string
		size, want int
	}{
		{"abcde", 2, 3},
		{"", 1, 1},
		{"", 5, 1},
		{"", 1 << 60, 1},
		{"a", 1, 1},
		{"a", 2, 1},
		{"abcd", 1, 4},
		{"abcd", 2, 2},
		{"abcd", 3, 2},
		{"abcd", 4, 1},
		{"abcd", 5, 1},
		{"abcd", 1 << 60, 1},
		{"é", 1, 2},
		{strings.Repeat("x", long), 256, 256},
		{strings.Repeat("x", long-1), 256, 256},
		{strings.Repeat("x", long+1), 256, 257},
		{strings.Repeat("x", long), 1, long},
		{strings.Repeat("x", long), long, 1},
	} {
		if got := gift.Chunks(c.s, c.size); got != c.want {
			t.Errorf("Chunks of %d bytes by %d: %d, not %d", len(c.s), c.size, got, c.want)
		}
	}
}

// P17.1: sizes below 1 have no pieces.
func TestNoSize(t *testing.T) {
	for _, s := range []string{"", "a", "abcde", strings.Repeat("x", 1<<16)} {
		for _, size := range []int{0, -1, -2, -5, -256, math.MinInt32, -1 << 32, math.MinInt + 1, math.MinInt} {
			if got := gift.Chunks(s, size); got != 0 {
				t.Errorf("Chunks of %d bytes by %d: %d", len(s), size, got)
			}
			for _, i := range []int{0, 1, -1, 2, math.MinInt, math.MaxInt} {
				if g, is := gift.Cut(s, size, i, api.Report{Dev: 3, Inc: 4}); is || g != (api.Gift{}) {
					t.Errorf("Cut of %d bytes by %d, %d: %v", len(s), size, i, g)
				}
			}
		}
	}
}

// P17.1: the chapter's example, and what a gift tells of it.
func TestCutOfExample(t *testing.T) {
	r := api.Report{Dev: 3, Inc: 4, Boot: 5, Beat: 6, Mode: joining, Pos: 7, Clock: 8, Sent: 9, Chunk: 1}
	for i, want := range []string{"ab", "cd", "e"} {
		g, is := gift.Cut("abcde", 2, i, r)
		if !is || g != (api.Gift{Dev: 3, Inc: 4, Chunk: i, Total: 3, Data: want}) {
			t.Errorf("piece %d: %v, %v", i, g, is)
		}
	}
	for _, i := range []int{3, 4, 5, 100, math.MaxInt, -1, -2, -3, math.MinInt} {
		if g, is := gift.Cut("abcde", 2, i, r); is || g != (api.Gift{}) {
			t.Errorf("piece %d: %v, %v", i, g, is)
		}
	}
	if g, is := gift.Cut("", 5, 0, r); !is || g != (api.Gift{Dev: 3, Inc: 4, Total: 1}) {
		t.Errorf("of no bytes: %v, %v", g, is)
	}
}

// P17.1, P17.3: all texts by all sizes: each piece, none beside them, and all of them, one behind the other, are the text.
func TestCut(t *testing.T) {
	for _, s := range texts() {
		for size := 1; size < len(s)+3; size++ {
			want := pieces(s, size)
			if got := gift.Chunks(s, size); got != len(want) {
				t.Fatalf("Chunks(%q, %d) = %d, not %d", s, size, got, len(want))
			}
			whole := ""
			for i := -3; i < len(want)+3; i++ {
				r := api.Report{Dev: size, Inc: i}
				g, is := gift.Cut(s, size, i, r)
				if i < 0 || i >= len(want) {
					if is || g != (api.Gift{}) {
						t.Fatalf("Cut(%q, %d, %d) = %v, %v", s, size, i, g, is)
					}
					continue
				}
				if !is || g != (api.Gift{Dev: size, Inc: i, Chunk: i, Total: len(want), Data: want[i]}) {
					t.Fatalf("Cut(%q, %d, %d) = %v, %v", s, size, i, g, is)
				}
				whole += g.Data
			}
			if whole != s {
				t.Fatalf("%q by %d: %q", s, size, whole)
			}
		}
	}
}

// P17.1: the report's Dev and Inc alone count, and may be any.
func TestCutOfAnyReport(t *testing.T) {
	l := edges()
	for i, dev := range l {
		for j, inc := range l {
			r := api.Report{Dev: dev, Inc: inc, Boot: j, Beat: i, Mode: dev, Pos: inc, Clock: j, Sent: dev, Chunk: inc}
			if g, is := gift.Cut("abcde", 2, (i+j)%3, r); !is || g.Dev != dev || g.Inc != inc || g.Chunk != (i+j)%3 || g.Total != 3 {
				t.Fatalf("Cut for %v: %v, %v", r, g, is)
			}
		}
	}
}

// P17.1: great sizes, and places of no piece at the ends of the numbers.
func TestCutOfGreat(t *testing.T) {
	long := strings.Repeat("0123456789abcdef", 1<<12)
	for _, size := range []int{1, 2, 255, 256, 257, 65535, 65536, 65537, 1 << 31, 1 << 32, 1 << 40, 1 << 60} {
		n := (len(long) + size - 1) / size
		if got := gift.Chunks(long, size); got != n {
			t.Fatalf("Chunks by %d: %d, not %d", size, got, n)
		}
		last, is := gift.Cut(long, size, n-1, api.Report{})
		if !is || last.Total != n || last.Chunk != n-1 || last.Data != long[(n-1)*size:] {
			t.Errorf("the last piece by %d: %d bytes, %v", size, len(last.Data), is)
		}
		if first, is := gift.Cut(long, size, 0, api.Report{}); !is || first.Data != long[:min(size, len(long))] {
			t.Errorf("the first piece by %d: %d bytes, %v", size, len(first.Data), is)
		}
		for _, i := range []int{n, n + 1, 1 << 17, 1 << 32, 1 << 62, math.MaxInt, -1, -n, math.MinInt} {
			if g, is := gift.Cut(long, size, i, api.Report{Dev: 1, Inc: 1}); is || g != (api.Gift{}) {
				t.Errorf("piece %d by %d: %d bytes, %v", i, size, len(g.Data), is)
			}
		}
	}
}
