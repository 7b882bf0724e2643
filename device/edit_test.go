package device_test

import (
	"math"
	"testing"

	"bargeman/api"
	"bargeman/device"
	"bargeman/past"
)

// edited is s behind the edit that moves x, as the chapter's words tell it.
func edited(s api.State, x api.Place) api.State {
	o := by(s.Clock+1, s.Node, s.Inc, s.Sent+1, x)
	s.Past, _ = past.Add(s.Past, o)
	s.Queue.Ops = append(append([]api.Op{}, s.Queue.Ops...), o)
	s.Clock++
	s.Sent++
	return s
}

// roomyPlan is the fleet's, with Quota 8.
func roomyPlan() api.Plan {
	p := fleet()
	p.Quota = 8
	return p
}

// P18.1: an edit is in the past and in the queue, by the next number and behind the clock; nothing else changes.
func TestEdit(t *testing.T) {
	p := roomyPlan()
	for _, x := range []api.Place{at(8, 0, "n"), at(5, 0, "b"), at(7, 6, "d"), at(4, 1, "a"), at(4, 6, "round"), at(15, 15-1, "sixteen.bytes.al")} {
		was := there()
		s := copied(was)
		got, no := device.Edit(p, s, x)
		if no != api.OK || !same(got, edited(was, x)) {
			t.Errorf("%v: %d, %v", x, no, got)
		}
		if !untouched(s, was) {
			t.Errorf("%v: what was handed in is %v", x, s)
		}
		if !past.Right(got.Past) || len(got.Queue.Ops) != 3 || got.Queue.Ops[2] != by(10, 2, 3, 2, x) {
			t.Errorf("%v: %v", x, got)
		}
	}
}

// P18.1: edits, one behind the other, from the beginning on.
func TestEdits(t *testing.T) {
	p := roomyPlan()
	s := device.New(3)
	for i := range 8 {
		x := at(2+i, i&1, "n")
		got, no := device.Edit(p, s, x)
		if no != api.OK || got.Sent != i+1 || got.Clock != i+1 || !same(got, edited(s, x)) {
			t.Fatalf("edit %d: %d, %v", i, no, got)
		}
		s = got
	}
	if got, no := device.Edit(p, s, at(12, 0, "n")); no != api.ErrBusy || !same(got, s) {
		t.Errorf("the ninth one: %d", no)
	}
}

// P18.1, the chapter's example: Quota 2, the third edit is ErrBusy.
func TestEditExample(t *testing.T) {
	s := device.New(2)
	for i, want := range []api.Errno{api.OK, api.OK, api.ErrBusy, api.ErrBusy} {
		got, no := device.Edit(fleet(), s, at(2+i, 0, "n"))
		if no != want || no != api.OK && !same(got, s) {
			t.Errorf("edit %d: %d", i+1, no)
		}
		s = got
	}
}

// P18.1: ErrArg: which nodes may be moved, and to where, by the plan's Ids and by the operations that may be.
func TestEditArg(t *testing.T) {
	for _, most := range []int{math.MinInt, -1, 0, 2, 3, 5, 16, 63, ids, ids + 1, 1 << 20, math.MaxInt} {
		p := roomyPlan()
		p.Ids = most
		for _, node := range edges() {
			for _, up := range edges() {
				want := api.ErrArg
				if node >= 2 && node < min(most, ids) && up >= 0 && up < min(most, ids) && up != node {
					want = api.OK
				}
				s := device.New(2)
				got, no := device.Edit(p, s, at(node, up, "n"))
				if no != want || no != api.OK && !same(got, s) {
					t.Fatalf("Ids %d: %d below %d: %d", most, node, up, no)
				}
			}
		}
	}
}

// P18.1: ErrArg: names that are none.
func TestEditName(t *testing.T) {
	for name, want := range map[string]api.Errno{
		"a": api.OK, "a.b": api.OK, "0123456789abcdef": api.OK,
		"": api.ErrArg, "a~3": api.ErrArg, "a/b": api.ErrArg, "/": api.ErrArg, "0123456789abcdefg": api.ErrArg,
	} {
		if _, no := device.Edit(roomyPlan(), there(), at(9, 0, name)); no != want {
			t.Errorf("%q: %d", name, no)
		}
	}
}

// P18.1: ErrAway: none but a live one edits.
func TestEditAway(t *testing.T) {
	for _, mode := range edges() {
		s := there()
		s.Mode = mode
		got, no := device.Edit(roomyPlan(), s, at(9, 0, "n"))
		if mode != live && (no != api.ErrAway || !same(got, s)) {
			t.Errorf("mode %d: %d", mode, no)
		}
	}
}

// P18.1: ErrBusy: by the past's operations of this life, and by all of the queue's; others' and elder ones in the past don't count.
func TestEditBusy(t *testing.T) {
	for own := range 4 {
		for others := range 4 {
			for waiting := range 5 {
				for quota := -1; quota < 5; quota++ {
					s := device.New(2)
					s.Inc, s.Clock, s.Sent = 3, 40, own
					for i := range own {
						s.Past, _ = past.Add(s.Past, by(10+i, 2, 3, i+1, at(2, 0, "o")))
					}
					for i := range others {
						s.Past, _ = past.Add(s.Past, by(20+i, 2, 2, i+1, at(2, 0, "e")))
						s.Past, _ = past.Add(s.Past, by(20+i, 3, 3, i+1, at(2, 0, "x")))
					}
					for i := range waiting {
						s.Queue.Ops = append(s.Queue.Ops, by(i+1, 2, 2, i+1, at(3, 0, "w")))
					}
					p := fleet()
					p.Quota = quota
					want := api.OK
					if own >= quota || waiting >= quota {
						want = api.ErrBusy
					}
					got, no := device.Edit(p, s, at(9, 0, "n"))
					if no != want || no != api.OK && !same(got, s) {
						t.Fatalf("Quota %d, %d in the past, %d in the queue: %d", quota, own, waiting, no)
					}
				}
			}
		}
	}
}

// P18.1: what is settled isn't under way any more.
func TestEditSettled(t *testing.T) {
	s := device.New(2)
	for i := range 2 {
		s, _ = device.Edit(fleet(), s, at(2+i, 0, "n"))
	}
	s.Queue = api.Queue{First: 3}
	if _, no := device.Edit(fleet(), s, at(9, 0, "n")); no != api.ErrBusy {
		t.Errorf("acknowledged alone: %d", no)
	}
	s.Past = past.Settle(s.Past, 1)
	if got, no := device.Edit(fleet(), s, at(9, 0, "n")); no != api.OK || got.Sent != 3 || got.Queue.First != 3 {
		t.Errorf("one of them settled: %d", no)
	}
}

// P18.1: ErrLimit: counters at their end, and moments that come too late.
func TestEditLimit(t *testing.T) {
	for _, c := range []struct {
		what string
		to   func(s *api.State)
		want api.Errno
	}{
		{"as it is", func(s *api.State) {}, api.OK},
		{"the last moment", func(s *api.State) { s.Clock = mostCount - 1 }, api.OK},
		{"no moment behind it", func(s *api.State) { s.Clock = mostCount }, api.ErrLimit},
		{"no clock", func(s *api.State) { s.Clock = -1 }, api.ErrLimit},
		{"the greatest clock", func(s *api.State) { s.Clock = math.MaxInt }, api.ErrLimit},
		{"the last number", func(s *api.State) { s.Sent = mostCount - 1 }, api.OK},
		{"no number behind it", func(s *api.State) { s.Sent = mostCount }, api.ErrLimit},
		{"the greatest number", func(s *api.State) { s.Sent = math.MaxInt }, api.ErrLimit},
		{"the last life", func(s *api.State) { s.Inc = mostCount }, api.OK},
		{"no life", func(s *api.State) { s.Inc = 0 }, api.ErrLimit},
		{"the last device", func(s *api.State) { s.Node = nodes - 1 }, api.OK},
		{"no device", func(s *api.State) { s.Node = nodes }, api.ErrLimit},
		{"at the stable counter", func(s *api.State) { s.Clock = 4 }, api.ErrLimit},
		{"below the stable counter", func(s *api.State) { s.Clock = 3 }, api.ErrLimit},
		{"behind the stable counter", func(s *api.State) { s.Clock = 5 }, api.OK},
		{"a moment that there is", func(s *api.State) { s.Clock = 7 }, api.ErrLimit},
		{"another one's moment", func(s *api.State) { s.Clock = 8 }, api.OK},
	} {
		s := there()
		c.to(&s)
		got, no := device.Edit(roomyPlan(), s, at(9, 0, "n"))
		if no != c.want || no != api.OK && !same(got, s) {
			t.Errorf("%s: %d", c.what, no)
		}
		if no == api.OK && (!same(got, edited(s, at(9, 0, "n"))) || !past.Right(got.Past)) {
			t.Errorf("%s: %v", c.what, got)
		}
	}
}

// P18.1: of several errors the first one is told: ErrArg, ErrAway, ErrBusy, ErrLimit.
func TestEditOrder(t *testing.T) {
	names := []api.Errno{api.ErrArg, api.ErrAway, api.ErrBusy, api.ErrLimit}
	for set := range 16 {
		s, p, x := there(), roomyPlan(), at(9, 0, "n")
		want := api.OK
		for i := 3; i >= 0; i-- {
			if set>>i&1 == 1 {
				want = names[i]
			}
		}
		if set&1 != 0 {
			x.Name = ""
		}
		if set&2 != 0 {
			s.Mode = joining
		}
		if set&4 != 0 {
			p.Quota = 1
		}
		if set&8 != 0 {
			s.Clock = mostCount
		}
		was := s
		s = copied(s)
		got, no := device.Edit(p, s, x)
		if no != want || no != api.OK && !same(got, was) || !untouched(s, was) {
			t.Errorf("errors %04b: %d", set, no)
		}
	}
}
