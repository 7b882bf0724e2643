package stamp_test

import (
	"math"
	"testing"

	"bargeman/api"
	"bargeman/stamp"
)

// The document's limits, written out: the tests shall not follow a limit that is changed.
const (
	mostCount = 1 << 40
	nodes     = 12
)

var (
	rightCounts = []int{0, 1, 2, 5, 1 << 20, mostCount - 1, mostCount}
	wrongCounts = []int{math.MinInt, math.MinInt + 1, -mostCount, -2, -1, mostCount + 1, mostCount + 2, 1 << 53, math.MaxInt - 1, math.MaxInt}
	rightDevs   = []int{0, 1, 2, nodes - 2, nodes - 1}
	wrongDevs   = []int{math.MinInt, math.MinInt + 1, -nodes, -2, -1, nodes, nodes + 1, mostCount, math.MaxInt - 1, math.MaxInt}
)

// pairs is every counter with every device, in the order of the lists.
func pairs(counts, devs []int) []api.Stamp {
	var l []api.Stamp
	for _, c := range counts {
		for _, d := range devs {
			l = append(l, api.Stamp{C: c, Dev: d})
		}
	}
	return l
}

// moments is all that may be of the edges, in rising order.
func moments() []api.Stamp { return pairs(rightCounts, rightDevs) }

// wrongs is what may not be: a wrong counter, a wrong device, or both.
func wrongs() []api.Stamp {
	l := pairs(wrongCounts, rightDevs)
	l = append(l, pairs(rightCounts, wrongDevs)...)
	return append(l, pairs(wrongCounts, wrongDevs)...)
}

// P1.1: Right tells whether a moment may be.
func TestRight(t *testing.T) {
	for _, s := range moments() {
		if !stamp.Right(s) {
			t.Errorf("%v may be", s)
		}
	}
	for _, s := range wrongs() {
		if stamp.Right(s) {
			t.Errorf("%v may not be", s)
		}
	}
}

// P1.1: Before goes by the counter first, then by the device.
func TestBefore(t *testing.T) {
	cases := []struct {
		a, b api.Stamp
		want bool
	}{
		{api.Stamp{C: 5, Dev: 2}, api.Stamp{C: 6, Dev: 2}, true},
		{api.Stamp{C: 6, Dev: 2}, api.Stamp{C: 5, Dev: 2}, false},
		{api.Stamp{C: 5, Dev: 2}, api.Stamp{C: 5, Dev: 3}, true},
		{api.Stamp{C: 5, Dev: 3}, api.Stamp{C: 5, Dev: 2}, false},
		{api.Stamp{C: 5, Dev: 2}, api.Stamp{C: 5, Dev: 2}, false},
		{api.Stamp{C: 5, Dev: 11}, api.Stamp{C: 6, Dev: 0}, true},
		{api.Stamp{C: 6, Dev: 0}, api.Stamp{C: 5, Dev: 11}, false},
		{api.Stamp{C: mostCount - 1, Dev: 11}, api.Stamp{C: mostCount}, true},
		{api.Stamp{C: mostCount}, api.Stamp{C: mostCount - 1, Dev: 11}, false},
	}
	for _, c := range cases {
		if got := stamp.Before(c.a, c.b); got != c.want {
			t.Errorf("Before(%v, %v) = %v", c.a, c.b, got)
		}
	}
}

// P1.1: Before is asked of any, also of counters that lie so near, or so far, that a float rounds them, or a difference wraps.
func TestBeforeOfAny(t *testing.T) {
	counts := []int{math.MinInt, math.MinInt + 1, -1<<53 - 1, -1 << 53, -mostCount, -1, 0, 1, 5, mostCount - 1, mostCount, mostCount + 1, 1 << 53, 1<<53 + 1, 1<<53 + 2, math.MaxInt - 1, math.MaxInt}
	devs := []int{math.MinInt, math.MinInt + 1, -1, 0, 1, 11, 12, 13, 1 << 53, 1<<53 + 1, math.MaxInt - 1, math.MaxInt}
	l := pairs(counts, devs)
	for i, a := range l {
		for j, b := range l {
			if got := stamp.Before(a, b); got != (i < j) {
				t.Fatalf("Before(%v, %v) = %v", a, b, got)
			}
		}
	}
}

// P1.1: Next is c + 1 of the device.
func TestNext(t *testing.T) {
	for _, c := range []int{0, 1, 5, 1 << 20, mostCount - 2, mostCount - 1} {
		for _, d := range rightDevs {
			if got, ok := stamp.Next(c, d); !ok || got != (api.Stamp{C: c + 1, Dev: d}) {
				t.Errorf("Next(%d, %d) = %v, %v", c, d, got, ok)
			}
		}
	}
}

// P1.1: there is none behind a counter that is wrong or at its end, nor of a wrong device.
func TestNextOfNone(t *testing.T) {
	l := append(wrongs(), pairs([]int{mostCount}, append(rightDevs, wrongDevs...))...)
	for _, s := range l {
		if got, ok := stamp.Next(s.C, s.Dev); ok || got != (api.Stamp{}) {
			t.Errorf("Next(%d, %d) = %v, %v", s.C, s.Dev, got, ok)
		}
	}
}

// P1.2: To makes the counter the real part, the device the imaginary one.
func TestTo(t *testing.T) {
	if z, ok := stamp.To(api.Stamp{C: 5, Dev: 2}); !ok || z != 5+2i {
		t.Errorf("To of 5 and 2 = %v, %v", z, ok)
	}
	if z, ok := stamp.To(api.Stamp{C: mostCount, Dev: 11}); !ok || z != 1099511627776+11i {
		t.Errorf("To of the greatest one = %v, %v", z, ok)
	}
	for _, s := range moments() {
		if z, ok := stamp.To(s); !ok || real(z) != float64(s.C) || imag(z) != float64(s.Dev) {
			t.Errorf("To(%v) = %v, %v", s, z, ok)
		}
	}
	for _, s := range wrongs() {
		if z, ok := stamp.To(s); ok || z != 0 {
			t.Errorf("To(%v) = %v, %v", s, z, ok)
		}
	}
}

// P1.2: From tells the moment of a number.
func TestFrom(t *testing.T) {
	below := math.Copysign(0, -1) // 0 is the same number with either sign
	cases := []struct {
		z    complex128
		want api.Stamp
	}{
		{0, api.Stamp{}},
		{7 + 3i, api.Stamp{C: 7, Dev: 3}},
		{11i, api.Stamp{Dev: 11}},
		{1, api.Stamp{C: 1}},
		{1099511627775 + 1i, api.Stamp{C: mostCount - 1, Dev: 1}},
		{1099511627776 + 11i, api.Stamp{C: mostCount, Dev: 11}},
		{complex(below, below), api.Stamp{}},
		{complex(below, 2), api.Stamp{Dev: 2}},
		{complex(2, below), api.Stamp{C: 2}},
	}
	for _, c := range cases {
		if got, ok := stamp.From(c.z); !ok || got != c.want {
			t.Errorf("From(%v) = %v, %v", c.z, got, ok)
		}
	}
}

// P1.2: a number with a wrong part is no moment's.
func TestFromOfNone(t *testing.T) {
	never := []float64{
		math.NaN(), math.Inf(1), math.Inf(-1), math.MaxFloat64, -math.MaxFloat64,
		math.SmallestNonzeroFloat64, -math.SmallestNonzeroFloat64, 0.5, -0.5, 7.5,
		math.Nextafter(5, 6), math.Nextafter(5, 4), -1, -2, -mostCount,
		1 << 53, 1 << 62, 1 << 63, 1 << 64, 1<<64 + 1<<13, -1 << 63, 1e300,
	}
	wrongReals := append([]float64{mostCount + 1, mostCount + 0.5, mostCount - 0.5, math.Nextafter(mostCount, math.Inf(1))}, never...)
	wrongImags := append([]float64{nodes, nodes + 1, nodes - 0.5, math.Nextafter(nodes-1, nodes), mostCount}, never...)
	rightReals := []float64{0, 1, 7, mostCount - 1, mostCount}
	rightImags := []float64{0, 1, 3, nodes - 1}
	try := func(re, im float64) {
		if s, ok := stamp.From(complex(re, im)); ok || s != (api.Stamp{}) {
			t.Errorf("From(%v + %vi) = %v, %v", re, im, s, ok)
		}
	}
	for _, re := range wrongReals {
		for _, im := range append(rightImags, wrongImags...) {
			try(re, im)
		}
	}
	for _, re := range rightReals {
		for _, im := range wrongImags {
			try(re, im)
		}
	}
}

// sweep is the moments of all devices whose counters lie on and beside each power of two.
func sweep() []api.Stamp {
	counts := []int{0}
	for bit := 1; bit <= mostCount; bit *= 2 {
		for c := max(counts[len(counts)-1]+1, bit-1); c <= min(bit+1, mostCount); c++ {
			counts = append(counts, c)
		}
	}
	devs := make([]int, nodes)
	for d := range devs {
		devs[d] = d
	}
	return pairs(counts, devs)
}

// P1.3: moments go to numbers and back, and no two share one.
func TestThereAndBack(t *testing.T) {
	seen := map[complex128]api.Stamp{}
	for _, s := range sweep() {
		z, ok := stamp.To(s)
		back, also := stamp.From(z)
		if !ok || !also || back != s {
			t.Fatalf("%v: %v, %v, and back %v, %v", s, z, ok, back, also)
		}
		if o, is := seen[z]; is {
			t.Fatalf("%v and %v share %v", o, s, z)
		}
		seen[z] = s
		if again, _ := stamp.To(back); again != z {
			t.Fatalf("%v: %v, then %v", s, z, again)
		}
	}
}

// P1.3: moments are in one order: of each two that differ just one is before the other one, as they stand in the rising list.
func TestOneOrder(t *testing.T) {
	l := sweep()
	for i, a := range l {
		for j, b := range l {
			if got := stamp.Before(a, b); got != (i < j) {
				t.Fatalf("Before(%v, %v) = %v", a, b, got)
			}
		}
	}
}

// P1.3: what is next comes behind all of its counter, whatever their device.
func TestNextIsBehind(t *testing.T) {
	for _, s := range sweep() {
		for d := range nodes {
			n, ok := stamp.Next(s.C, d)
			if ok != (s.C < mostCount) {
				t.Fatalf("Next(%d, %d): %v", s.C, d, ok)
			}
			if ok && (!stamp.Right(n) || !stamp.Before(s, n) || stamp.Before(n, s)) {
				t.Fatalf("%v isn't behind %v", n, s)
			}
		}
	}
}
