package name_test

import (
	"math"
	"regexp"
	"strconv"
	"strings"
	"testing"

	"bargeman/name"
)

// The document's limits, written out: the tests shall not follow a limit that is changed.
const (
	mostBytes = 16
	ids       = 64
)

// plain is whether a name may have the byte b, as the document tells it.
func plain(b int) bool { return 33 <= b && b <= 125 && b != 47 }

// one is the text of the byte b alone, which string(rune(b)) is not.
func one(b int) string { return string([]byte{byte(b)}) }

// names is such of each length, and of each byte that they may have.
func names() []string {
	l := []string{"a", "b", "ab", "ba", "A", "0", "12", "63", "a0", "a12", "-1", "+1", "a.txt", ".", "..", "a|b", "{}", "!!", "}}", "\"'\\`", "$HOME", "a-b_c"}
	for n := 1; n <= mostBytes; n++ {
		l = append(l, strings.Repeat("x", n), strings.Repeat("!", n), strings.Repeat("}", n), "0123456789abcdef"[:n])
	}
	for b := range 256 {
		if plain(b) {
			l = append(l, one(b), "a"+one(b), one(b)+"a", strings.Repeat(one(b), mostBytes))
		}
	}
	return l
}

// wrongs is what is no name: nothing, too many bytes, and such with one byte that no name has, at each place.
func wrongs() []string {
	l := []string{"", " ", "a b", " a", "a ", "a\n", "\ta", "/", "/a", "a/", "a/b", "~", "é", "aé", "€", "\xc3", "a\x00", "a\x7fb"}
	for _, n := range []int{mostBytes + 1, mostBytes + 2, 2 * mostBytes, 255, 256, 257, 272, 1 << 16, 1<<16 + 1, 1 << 20} {
		l = append(l, strings.Repeat("x", n), strings.Repeat("!", n), strings.Repeat("é", n/2), strings.Repeat("/", n))
	}
	for b := range 256 {
		if plain(b) {
			continue
		}
		for _, n := range []int{1, 2, 7, mostBytes} {
			for at := range n {
				l = append(l, strings.Repeat("x", at)+one(b)+strings.Repeat("x", n-1-at))
			}
		}
	}
	return l
}

// form is the names and their twins, as the words tell them.
var form = regexp.MustCompile(`\A([!-.0-}]{1,16})(~(0|[1-9]|[1-5][0-9]|6[0-3]))?\z`)

// slow is what Split answers, told by form.
func slow(s string) (string, int, bool) {
	m := form.FindStringSubmatch(s)
	if m == nil {
		return "", 0, false
	}
	if m[2] == "" {
		return m[1], -1, true
	}
	node, _ := strconv.Atoi(m[3])
	return m[1], node, true
}

// splits wants that s is split so.
func splits(t *testing.T, s, base string, node int, is bool) {
	t.Helper()
	if b, n, ok := name.Split(s); b != base || n != node || ok != is {
		t.Errorf("Split(%.30q) = %.30q, %d, %v, not %.30q, %d, %v", s, b, n, ok, base, node, is)
	}
}

// none wants that s is no name, and no name's twin.
func none(t *testing.T, s string) {
	t.Helper()
	splits(t, s, "", 0, false)
	if name.Right(s) {
		t.Errorf("%.30q is no name", s)
	}
}

// P4.1: Right tells whether it is a name.
func TestRight(t *testing.T) {
	for _, s := range names() {
		if !name.Right(s) {
			t.Errorf("%q is a name", s)
		}
	}
	for _, s := range wrongs() {
		if name.Right(s) {
			t.Errorf("%.30q, of %d bytes, is no name", s, len(s))
		}
	}
}

// P4.1: of all texts of one byte, and of two, those are names that have no other bytes than a name has.
func TestRightOfFewBytes(t *testing.T) {
	for a := range 256 {
		if name.Right(one(a)) != plain(a) {
			t.Errorf("Right(%q) = %v", one(a), !plain(a))
		}
		for b := range 256 {
			if got := name.Right(one(a) + one(b)); got != (plain(a) && plain(b)) {
				t.Errorf("Right(%q) = %v", one(a)+one(b), got)
			}
		}
	}
}

// P4.1: Twin is the text, the mark, and the node in digits; also of what is no name, and of a node that no tree has.
func TestTwin(t *testing.T) {
	cases := []struct {
		s    string
		node int
		want string
	}{
		{"a", 12, "a~12"}, {"b", 0, "b~0"}, {"a", 1, "a~1"}, {"a", 9, "a~9"}, {"a", 10, "a~10"}, {"a", 63, "a~63"},
		{"a", 64, "a~64"}, {"a", 100, "a~100"}, {"a", 65536, "a~65536"},
		{"a", math.MaxInt - 1, "a~9223372036854775806"}, {"a", math.MaxInt, "a~9223372036854775807"},
		{"12", 12, "12~12"}, {"0123456789abcdef", 5, "0123456789abcdef~5"},
		{"", 0, "~0"}, {"", 7, "~7"}, {"~", 7, "~~7"}, {"a~1", 2, "a~1~2"}, {"a/b", 2, "a/b~2"}, {" ", 2, " ~2"}, {"\xff\x00", 2, "\xff\x00~2"},
	}
	for _, c := range cases {
		if got := name.Twin(c.s, c.node); got != c.want {
			t.Errorf("Twin(%q, %d) = %q", c.s, c.node, got)
		}
	}
	for _, s := range append(names(), wrongs()...) {
		for _, node := range []int{0, 7, 63, 64, math.MaxInt} {
			if got := name.Twin(s, node); got != s+"~"+strconv.Itoa(node) {
				t.Errorf("Twin(%.30q, %d) = %.50q", s, node, got)
			}
		}
	}
}

// Rule 1: the chapter tells no twin of a node below 0; none is made.
func TestTwinOfNoNode(t *testing.T) {
	for _, s := range []string{"", "a", "a~1", "0123456789abcdef", "\xff"} {
		for _, node := range []int{-1, -2, -12, -64, math.MinInt + 1, math.MinInt} {
			if got := name.Twin(s, node); got != "" {
				t.Errorf("Twin(%q, %d) = %q", s, node, got)
			}
		}
	}
}

// P4.1: Split of a name is it, and -1.
func TestSplitName(t *testing.T) {
	for _, s := range names() {
		splits(t, s, s, -1, true)
	}
}

// P4.1: Split of a name's twin is the name, and the node, whichever they are: a twin has more bytes than a name may have.
func TestSplitTwin(t *testing.T) {
	splits(t, "a~12", "a", 12, true)
	splits(t, "0123456789abcdef~63", "0123456789abcdef", 63, true)
	for _, s := range names() {
		for node := range ids {
			splits(t, s+"~"+strconv.Itoa(node), s, node, true)
			splits(t, name.Twin(s, node), s, node, true)
		}
	}
}

// P4.1: Split of what is no name's twin is nothing: wrong in its name, though the node may be.
func TestSplitOfNoName(t *testing.T) {
	for _, s := range wrongs() {
		none(t, s)
		for _, node := range []int{0, 1, 12, 63} {
			none(t, s+"~"+strconv.Itoa(node))
		}
	}
}

// P4.1: Split of a name and a node that no tree has is nothing, also of one that a number of 64 bits, 32, 16 or 8 would have as a right one.
func TestSplitOfNoNode(t *testing.T) {
	l := []string{
		"64", "65", "70", "99", "100", "127", "256", "257", "300", "512", "65536", "65537", "4294967296", "4294967297", "9223372036854775807", "9223372036854775808",
		"18446744073709551616", "18446744073709551617", "36893488147419103232", "340282366920938463463374607431768211457", strings.Repeat("1", 1000), "1" + strings.Repeat("0", 100),
		"-1", "-0", "-12", "-64", "-9223372036854775808",
	}
	for _, s := range []string{"a", "12", "0123456789abcdef"} {
		for _, digits := range l {
			none(t, s+"~"+digits)
		}
		for node := ids; node < 5000; node++ {
			none(t, s+"~"+strconv.Itoa(node))
		}
	}
}

// P4.1: Split of a node in other digits than Twin's is nothing.
func TestSplitOfOtherDigits(t *testing.T) {
	l := []string{"a~", "a~012", "a~~", "a~~1", "a~1~", "a~1~2", "~", "~1", "~~1", "a~1 ", "a~ 1", "a~1\n", "a~1/", "a~/1", "a~a", "a~1a", "a~a1", "a~0x1", "a~1e1", "a~1.", "a~1.0", "a~1_0", "a~.", "a~٣", "a~\xb1"}
	for _, s := range l {
		none(t, s)
	}
	for node := range ids {
		digits := strconv.Itoa(node)
		for _, s := range []string{"0" + digits, "00" + digits, strings.Repeat("0", 100) + digits, "+" + digits, "-" + digits, " " + digits, digits + " ", digits + "~", "~" + digits, digits + "~" + digits, digits + "\x00"} {
			none(t, "a~"+s)
		}
	}
	for b := range 256 {
		if b < '0' || b > '9' {
			none(t, "a~"+one(b))
			none(t, "a~1"+one(b))
			none(t, "a~"+one(b)+"1")
		}
	}
}

// P4.1: of all texts of up to five bytes, of those that matter, Split tells what the words tell.
func TestSplitOfFewBytes(t *testing.T) {
	bytes := []string{"a", "~", "0", "1", "3", "4", "6", "9", "/", " ", "\xff"}
	l := []string{""}
	for range 5 {
		var longer []string
		for _, s := range l {
			for _, b := range bytes {
				longer = append(longer, s+b)
			}
		}
		for _, s := range longer {
			base, node, is := slow(s)
			splits(t, s, base, node, is)
		}
		l = longer
	}
}

// P4.2: no name is a twin's, be it of a name and any node.
func TestNoNameIsTwin(t *testing.T) {
	for _, s := range names() {
		for _, node := range []int{0, 1, 9, 10, 63, 64, 1000, math.MaxInt} {
			if name.Right(name.Twin(s, node)) {
				t.Errorf("the twin of %q and %d is a name", s, node)
			}
		}
	}
}

// P4.2: twins of two names, or of two nodes, are two.
func TestTwinsAreTwo(t *testing.T) {
	type whose struct {
		s    string
		node int
	}
	nodes := []int{100, 101, 111, 112, 1000, 1 << 40, math.MaxInt - 1, math.MaxInt}
	for node := range ids {
		nodes = append(nodes, node)
	}
	seen := map[string]whose{}
	for _, s := range names() {
		for _, node := range nodes {
			w, twin := whose{s, node}, name.Twin(s, node)
			if o, is := seen[twin]; is && o != w {
				t.Errorf("%q is the twin of %v, and of %v", twin, o, w)
			}
			seen[twin] = w
		}
	}
}
