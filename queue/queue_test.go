package queue_test

import (
	"math"
	"math/rand"
	"slices"
	"strings"
	"testing"

	"bargeman/api"
	"bargeman/queue"
)

// The document's numbers, written out: the tests shall not follow one that is changed.
const (
	mostCount = 1 << 40
	mostOps   = 4096
	mostName  = 16
	devices   = 12
	nodes     = 64
)

// at is the operation of the tests of a number from 1 on: those of numbers near one another differ, in all their fields.
func at(number int) api.Op {
	return api.Op{
		At:  api.Stamp{C: 1 + number%5000, Dev: number % devices},
		Inc: 1 + number%7, Num: 1 + number%6000,
		Node: 2 + number%(nodes-2), Up: number % 2,
		Name: strings.Repeat("abc"[number%3:number%3+1], 1+number%mostName),
	}
}

// row is the operations of the n numbers from first on.
func row(first, n int) []api.Op {
	var l []api.Op
	for i := range n {
		l = append(l, at(first+i))
	}
	return l
}

// stands is a queue of n operations from number first on.
func stands(first, grant, n int) api.Queue {
	return api.Queue{First: first, Grant: grant, Ops: row(first, n)}
}

// queues is small ones that may be, at both ends of the numbers too.
func queues() []api.Queue {
	var l []api.Queue
	for n := range 6 {
		for _, first := range []int{1, 2, 3, 9, 1 << 31, 1 << 32, mostCount - 9, mostCount - 2, mostCount} {
			for _, grant := range []int{0, 1, first - 2, first - 1, first, first + 1, first + n - 1, first + n, mostCount} {
				if 0 <= grant && grant <= mostCount {
					l = append(l, stands(first, grant, n))
				}
			}
		}
	}
	return l
}

// raws is such that may be, and many that may not: of any numbers, with few operations.
func raws() []api.Queue {
	var l []api.Queue
	for _, first := range edges() {
		for _, grant := range edges() {
			for n := range 3 {
				l = append(l, api.Queue{First: first, Grant: grant, Ops: row(1, n)})
			}
		}
	}
	return l
}

// edges is numbers around all bounds, and around those at which a smaller kind of number would wrap.
func edges() []int {
	l := []int{math.MinInt, math.MinInt + 1, math.MaxInt - 1, math.MaxInt}
	for n := -3; n < 6; n++ {
		l = append(l, n)
	}
	for _, n := range []int{1 << 8, 1 << 16, 1 << 31, 1 << 32, mostCount, 1 << 62} {
		l = append(l, n-1, n, n+1, n+2, -n-1, -n, -n+1)
	}
	return l
}

// around is the edges, and the numbers around those of q's operations and its Grant.
func around(q api.Queue) []int {
	l := append(edges(), q.Grant-1, q.Grant, q.Grant+1)
	for number := q.First - 3; number <= q.First+len(q.Ops)+3; number++ {
		l = append(l, number)
	}
	return l
}

// wrongOps is operations that may not be, each for another reason.
func wrongOps() []api.Op {
	l := []api.Op{{}}
	for _, change := range []func(o *api.Op){
		func(o *api.Op) { o.At.C = 0 },
		func(o *api.Op) { o.At.C = mostCount + 1 },
		func(o *api.Op) { o.At.Dev = -1 },
		func(o *api.Op) { o.At.Dev = devices },
		func(o *api.Op) { o.Inc = 0 },
		func(o *api.Op) { o.Inc = mostCount + 1 },
		func(o *api.Op) { o.Num = 0 },
		func(o *api.Op) { o.Num = mostCount + 1 },
		func(o *api.Op) { o.Node = 1 },
		func(o *api.Op) { o.Node = nodes },
		func(o *api.Op) { o.Up = -1 },
		func(o *api.Op) { o.Up = nodes },
		func(o *api.Op) { o.Up = o.Node },
		func(o *api.Op) { o.Name = "" },
		func(o *api.Op) { o.Name = "a/b" },
		func(o *api.Op) { o.Name = strings.Repeat("a", mostName+1) },
	} {
		o := at(5)
		change(&o)
		l = append(l, o)
	}
	return l
}

// equal is whether a and b are the same queue; an empty list is as good as none.
func equal(a, b api.Queue) bool {
	return a.First == b.First && a.Grant == b.Grant && slices.Equal(a.Ops, b.Ops)
}

// push is Push as the chapter's words tell it.
func push(q api.Queue, o api.Op) api.Queue {
	var l []api.Op
	l = append(l, q.Ops...)
	return api.Queue{First: q.First, Grant: q.Grant, Ops: append(l, o)}
}

// ack is Ack as the chapter's words tell it: one by one.
func ack(q api.Queue, upTo int) api.Queue {
	for len(q.Ops) > 0 && q.First <= upTo {
		q = api.Queue{First: q.First + 1, Grant: q.Grant, Ops: q.Ops[1:]}
	}
	return q
}

// allow is Allow as the chapter's words tell it.
func allow(q api.Queue, grant int) api.Queue {
	if grant > q.Grant {
		q.Grant = grant
	}
	return q
}

// out is Out as the chapter's words tell it.
func out(q api.Queue, most int) []api.Op {
	var l []api.Op
	for i, o := range q.Ops {
		if q.First+i <= q.Grant && len(l) < most {
			l = append(l, o)
		}
	}
	return l
}

// P13.1: a new queue.
func TestNew(t *testing.T) {
	q := queue.New()
	if !equal(q, api.Queue{First: 1}) || !queue.Right(q) || len(queue.Out(q, 9)) != 0 {
		t.Errorf("New() = %v", q)
	}
}

// P13.1: the chapter's example.
func TestExample(t *testing.T) {
	q := queue.Allow(queue.Push(queue.Push(queue.New(), at(1)), at(2)), 1)
	if l := queue.Out(q, 9); !slices.Equal(l, row(1, 1)) {
		t.Errorf("two operations, Grant 1: %v", l)
	}
}

// P13.1: queues that may be, of any length.
func TestRight(t *testing.T) {
	l := append(queues(), api.Queue{First: 1}, api.Queue{First: 1, Ops: []api.Op{}}, api.Queue{First: mostCount, Grant: mostCount})
	l = append(l, stands(1, 0, mostOps), stands(1, 0, mostOps+1), stands(mostCount, 0, mostOps+1), stands(1, mostCount, 3*mostOps))
	for _, q := range l {
		if !queue.Right(q) {
			t.Errorf("%.200v may be", q)
		}
	}
	if queue.Right(api.Queue{}) || queue.Right(api.Queue{Ops: row(1, 1)}) {
		t.Error("First 0 may not be")
	}
}

// P13.1: First and Grant outside, each alone and both.
func TestRightOfNumbers(t *testing.T) {
	for _, q := range raws() {
		want := 1 <= q.First && q.First <= mostCount && 0 <= q.Grant && q.Grant <= mostCount
		if queue.Right(q) != want {
			t.Fatalf("Right(%v) isn't %v", q, want)
		}
	}
}

// P13.1: each operation may be, wherever it stands; which ones they are is of no account.
func TestRightOfOps(t *testing.T) {
	good := []api.Op{at(1), at(5), at(99), {At: api.Stamp{C: mostCount, Dev: 11}, Inc: mostCount, Num: mostCount, Node: 63, Up: 62, Name: "b"}}
	for _, n := range []int{1, 2, 3, 5, 100} {
		for i := range n {
			q := stands(3, 1, n)
			for _, o := range wrongOps() {
				q.Ops[i] = o
				if queue.Right(q) {
					t.Errorf("with %v as number %d of %d", o, i, n)
				}
			}
			for _, o := range good {
				q.Ops[i] = o
				if !queue.Right(q) {
					t.Errorf("not with %v as number %d of %d", o, i, n)
				}
			}
		}
	}
}

// P13.1: Push puts an operation, whatever its own number is, behind all.
func TestPush(t *testing.T) {
	if q := queue.Push(api.Queue{First: 1}, at(1)); !equal(q, api.Queue{First: 1, Ops: row(1, 1)}) {
		t.Errorf("the first one: %v", q)
	}
	if q := queue.Push(api.Queue{First: 5, Grant: 7, Ops: row(5, 1)}, at(6)); !equal(q, api.Queue{First: 5, Grant: 7, Ops: row(5, 2)}) {
		t.Errorf("one more: %v", q)
	}
	for _, q := range queues() {
		for _, o := range []api.Op{at(q.First + len(q.Ops)), at(q.First), at(1), {}, {Num: -1, Name: "/"}} {
			if got := queue.Push(q, o); !equal(got, push(q, o)) {
				t.Fatalf("Push(%v, %v) = %v", q, o, got)
			}
		}
	}
}

// P13.1: one operation behind the other; nothing bounds how many.
func TestPushInRow(t *testing.T) {
	q := api.Queue{First: 11, Grant: 3}
	for n := range 300 {
		if !equal(q, stands(11, 3, n)) || !queue.Right(q) {
			t.Fatalf("with %d: %v", n, q)
		}
		q = queue.Push(q, at(11+n))
	}
	q = queue.Push(stands(1, 0, mostOps), at(mostOps+1))
	if !equal(q, stands(1, 0, mostOps+1)) {
		t.Errorf("%d operations", len(q.Ops))
	}
}

// P13.1: Ack, by hand: as far as there are such, and never back.
func TestAck(t *testing.T) {
	q := stands(4, 5, 3) // numbers 4 to 6
	for _, c := range []struct {
		ack, first, left int
	}{
		{math.MinInt, 4, 3},
		{-1, 4, 3},
		{0, 4, 3},
		{1, 4, 3},
		{3, 4, 3},
		{4, 5, 2},
		{5, 6, 1},
		{6, 7, 0},
		{7, 7, 0},
		{8, 7, 0},
		{mostCount, 7, 0},
		{math.MaxInt, 7, 0},
	} {
		if got := queue.Ack(q, c.ack); !equal(got, stands(c.first, 5, c.left)) {
			t.Errorf("Ack of %d: %v, not %d from %d on", c.ack, got, c.left, c.first)
		}
	}
	for _, n := range edges() {
		if got := queue.Ack(queue.New(), n); !equal(got, api.Queue{First: 1}) {
			t.Errorf("Ack of none by %d: %v", n, got)
		}
	}
}

// P13.1: Ack of small queues by all numbers around; the next one's number may be one that may not be.
func TestAckAround(t *testing.T) {
	for _, q := range queues() {
		for _, n := range around(q) {
			got := queue.Ack(q, n)
			if !equal(got, ack(q, n)) || queue.Right(got) != (got.First <= mostCount) {
				t.Fatalf("Ack(%v, %d) = %v", q, n, got)
			}
		}
	}
	if got := queue.Ack(stands(mostCount, 0, 1), mostCount); !equal(got, api.Queue{First: mostCount + 1}) {
		t.Errorf("at the end: %v", got)
	}
}

// P13.1: what is acknowledged in steps, in any order, is as if it were by the greatest at once; and so is what comes behind.
func TestAckInSteps(t *testing.T) {
	draw := rand.New(rand.NewSource(13))
	for range 2000 {
		q := stands(1+draw.Intn(5), draw.Intn(9), draw.Intn(9))
		x, most := q, 0
		for range 1 + draw.Intn(4) {
			n := draw.Intn(16)
			x, most = queue.Ack(x, n), max(most, n)
		}
		next := at(x.First + len(x.Ops))
		if !equal(x, ack(q, most)) || !equal(queue.Push(x, next), stands(x.First, q.Grant, len(x.Ops)+1)) {
			t.Fatalf("%v, acknowledged up to %d: %v", q, most, x)
		}
	}
}

// P13.1: Allow takes a greater number, and that alone.
func TestAllow(t *testing.T) {
	for _, c := range []struct{ grant, want int }{
		{math.MinInt, 5}, {-1, 5}, {0, 5}, {4, 5}, {5, 5}, {6, 6}, {99, 99}, {mostCount, mostCount}, {mostCount + 1, mostCount + 1}, {math.MaxInt, math.MaxInt},
	} {
		if got := queue.Allow(stands(4, 5, 3), c.grant); !equal(got, stands(4, c.want, 3)) {
			t.Errorf("Allow of %d: %v", c.grant, got)
		}
	}
	for _, q := range queues() {
		for _, n := range around(q) {
			if got := queue.Allow(q, n); !equal(got, allow(q, n)) {
				t.Fatalf("Allow(%v, %d) = %v", q, n, got)
			}
		}
	}
}

// P13.1: Out, by hand: by Grant and by most, whichever is less.
func TestOut(t *testing.T) {
	for _, c := range []struct{ grant, most, n int }{
		{0, 9, 0},
		{1, 9, 0},
		{3, 9, 0},
		{4, 9, 1},
		{5, 9, 2},
		{6, 9, 3},
		{7, 9, 3},
		{mostCount, 9, 3},
		{mostCount, math.MaxInt, 3},
		{mostCount, 3, 3},
		{mostCount, 2, 2},
		{mostCount, 1, 1},
		{mostCount, 0, 0},
		{mostCount, -1, 0},
		{mostCount, math.MinInt, 0},
		{5, 3, 2},
		{5, 2, 2},
		{5, 1, 1},
		{5, 0, 0},
		{3, 0, 0},
		{3, -1, 0},
	} {
		if got := queue.Out(stands(4, c.grant, 3), c.most); !slices.Equal(got, row(4, c.n)) {
			t.Errorf("Out with Grant %d, at most %d: %v, not %d", c.grant, c.most, got, c.n)
		}
	}
}

// P13.1: Out of small queues, with all grants around, and as many as there may be.
func TestOutAround(t *testing.T) {
	for _, q := range queues() {
		for _, most := range edges() {
			if got := queue.Out(q, most); !slices.Equal(got, out(q, most)) {
				t.Fatalf("Out(%v, %d) = %v", q, most, got)
			}
		}
	}
	for _, q := range []api.Queue{stands(1, 0, 4), stands(9, 0, 4), stands(mostCount-1, 0, 4), stands(mostCount, 0, 4)} {
		for grant := range 20 {
			for most := -1; most < 6; most++ {
				for _, n := range []int{grant, mostCount - grant} {
					q.Grant = n
					if got := queue.Out(q, most); !slices.Equal(got, out(q, most)) {
						t.Fatalf("Out(%v, %d) = %v", q, most, got)
					}
				}
			}
		}
	}
}

// P13.1: a long queue goes out, and away, as a short one does.
func TestLong(t *testing.T) {
	q := stands(7, 6+1000, 3*mostOps)
	if l := queue.Out(q, math.MaxInt); !slices.Equal(l, row(7, 1000)) {
		t.Errorf("out: %d", len(l))
	}
	if l := queue.Out(queue.Allow(q, mostCount), math.MaxInt); !slices.Equal(l, q.Ops) {
		t.Errorf("all out: %d", len(l))
	}
	if x := queue.Ack(q, 6+5000); !equal(x, stands(5007, 1006, 3*mostOps-5000)) || len(queue.Out(x, 9)) != 0 {
		t.Errorf("left: %d", len(x.Ops))
	}
}

// P13.3: no more is sent than was granted, and each operation under its own number, whatever comes in which order.
func TestNoMoreThanGranted(t *testing.T) {
	draw := rand.New(rand.NewSource(133))
	sent := 0
	for range 3000 {
		q, granted, pushed, acked := queue.New(), 0, 0, 0
		for range 1 + draw.Intn(30) {
			n := draw.Intn(14) - 2
			switch draw.Intn(4) {
			case 0, 1:
				pushed++
				q = queue.Push(q, at(pushed))
			case 2:
				q, acked = queue.Ack(q, n), max(acked, min(n, pushed))
			default:
				q, granted = queue.Allow(q, n), max(granted, n)
			}
			l := queue.Out(q, draw.Intn(9))
			all := queue.Out(q, math.MaxInt)
			want := row(acked+1, max(min(granted, pushed)-acked, 0))
			if !equal(q, stands(acked+1, granted, pushed-acked)) || !slices.Equal(all, want) || !slices.Equal(l, all[:len(l)]) {
				t.Fatalf("%d pushed, %d granted, %d acknowledged: %v, out %v, of %v", pushed, granted, acked, q, l, all)
			}
			sent += len(l)
		}
	}
	if sent < 10000 {
		t.Errorf("only %d sent", sent)
	}
}

// P13.3: frames may be lost, doubled and late: what was sent is sent again till it is acknowledged, and comes once, in its order.
func TestOnTheWay(t *testing.T) {
	draw := rand.New(rand.NewSource(131))
	const all, room = 20, 3
	for range 300 {
		q, pushed, recv, heard := queue.New(), 0, 0, 0
		for steps := 0; heard < all; steps++ {
			if steps > 5000 {
				t.Fatalf("stands still at %d: %v", recv, q)
			}
			if pushed < all && draw.Intn(2) == 0 {
				pushed++
				q = queue.Push(q, at(pushed))
			}
			for i, o := range queue.Out(q, 1+draw.Intn(3)) {
				if number := q.First + i; number > q.Grant || o != at(number) {
					t.Fatalf("number %d of %v is sent as %v", number, q, o)
				} else if number == recv+1 && draw.Intn(3) > 0 {
					recv++
				}
			}
			told := recv - draw.Intn(recv+1) // it may be late
			heard = max(heard, told)
			q = queue.Allow(queue.Ack(q, told), told+room)
			if !equal(q, stands(heard+1, heard+room, pushed-heard)) {
				t.Fatalf("%d pushed, %d heard: %v", pushed, heard, q)
			}
		}
	}
}

// LANGUAGE: no call panics, of any queue; what can be told of it is told.
func TestOfAny(t *testing.T) {
	for _, q := range raws() {
		for _, n := range []int{math.MinInt, -1, 0, 1, q.First - 1, q.First, q.First + 1, mostCount, math.MaxInt} {
			x, l := queue.Ack(q, n), queue.Out(q, n)
			if gone := len(q.Ops) - len(x.Ops); !slices.Equal(x.Ops, q.Ops[gone:]) || x.First != q.First+gone || (gone > 0) != (len(q.Ops) > 0 && q.First <= n) {
				t.Fatalf("Ack(%v, %d) = %v", q, n, x)
			}
			if !slices.Equal(l, q.Ops[:len(l)]) || len(l) > max(n, 0) || (len(l) > 0) != (len(q.Ops) > 0 && q.First <= q.Grant && n > 0) {
				t.Fatalf("Out(%v, %d) = %v", q, n, l)
			}
			if !equal(queue.Allow(q, n), allow(q, n)) || !equal(queue.Push(q, at(1)), push(q, at(1))) {
				t.Fatalf("of %v, by %d", q, n)
			}
		}
	}
}

// Rule 3: what is handed in stays as it was, its spare room too, and an answer is never changed by what is made of another one.
func TestMemory(t *testing.T) {
	for _, n := range []int{0, 1, 2, 5} {
		all := row(1, n+4)
		was := slices.Clone(all)
		q := api.Queue{First: 1, Grant: 2, Ops: all[:n]}
		for i, call := range memoryCalls(q) {
			got := call()
			if !slices.Equal(all, was) {
				t.Fatalf("call %d has changed what was handed in", i)
			}
			clear(got[:cap(got)])
			if !slices.Equal(all, was) {
				t.Fatalf("call %d shares its answer", i)
			}
		}
	}
}

// memoryCalls is calls by q whose answers have lists, and what these are.
func memoryCalls(q api.Queue) []func() []api.Op {
	calls := []func() []api.Op{func() []api.Op { return queue.Push(q, at(77)).Ops }}
	for n := -1; n <= q.First+len(q.Ops)+1; n++ {
		calls = append(calls,
			func() []api.Op { return queue.Ack(q, n).Ops },
			func() []api.Op { return queue.Allow(q, n).Ops },
			func() []api.Op { return queue.Out(q, n) },
			func() []api.Op { return queue.Out(allow(q, mostCount), n) },
		)
	}
	return calls
}

// Rule 3: an answer stays, whatever is made of it.
func TestAnswersStay(t *testing.T) {
	a := queue.Allow(stands(1, 0, 4), 9)
	b, c := queue.Push(a, at(5)), queue.Push(a, at(55))
	d := queue.Ack(a, 2)
	e, f := queue.Push(d, at(56)), queue.Push(d, at(5))
	l := queue.Out(a, 2)
	m := append(l, at(57), at(58))
	g := queue.Push(queue.Allow(d, 1), at(59))
	for i, x := range []struct{ got, want []api.Op }{
		{a.Ops, row(1, 4)},
		{b.Ops, row(1, 5)},
		{c.Ops, append(row(1, 4), at(55))},
		{d.Ops, row(3, 2)},
		{e.Ops, append(row(3, 2), at(56))},
		{f.Ops, row(3, 3)},
		{l, row(1, 2)},
		{m, append(row(1, 2), at(57), at(58))},
		{g.Ops, append(row(3, 2), at(59))},
	} {
		if !slices.Equal(x.got, x.want) {
			t.Errorf("%d has become %v", i, x.got)
		}
	}
}

// Rule 2: an empty list is as good as none.
func TestEmptyLists(t *testing.T) {
	for _, l := range [][]api.Op{nil, {}} {
		q := api.Queue{First: 3, Grant: 9, Ops: l}
		if !queue.Right(q) || len(queue.Out(q, 5)) != 0 || queue.Print(q) != "\x06\x12\x00" {
			t.Errorf("of %#v", l)
		}
		if !equal(queue.Ack(q, 9), q) || !equal(queue.Allow(q, 9), q) || !equal(queue.Push(q, at(3)), stands(3, 9, 1)) {
			t.Errorf("made of %#v", l)
		}
	}
}

// Rule 4: a call hangs on its arguments alone, not on what was asked ahead of it.
func TestAgain(t *testing.T) {
	l := queues()
	for i, q := range l {
		ask := func(q api.Queue) []api.Queue {
			return []api.Queue{
				queue.New(), queue.Push(q, at(1)), queue.Ack(q, q.First+1), queue.Allow(q, q.Grant+1),
				{Grant: len(queue.Print(q)), Ops: queue.Out(q, 2)},
			}
		}
		was, is := ask(q), queue.Right(q)
		ask(l[(i+1)%len(l)])
		if !slices.EqualFunc(ask(q), was, equal) || queue.Right(q) != is {
			t.Fatalf("%v: other answers", q)
		}
	}
}
