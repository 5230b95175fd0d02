package aim_test

import (
	"slices"
	"testing"

	"hydra/aim"
	"hydra/api"
	"hydra/object"
	"hydra/team"
)

// Objects are told in the order of the Field, teams by numbers.
func TestOrder(t *testing.T) {
	s, x := giants(t)
	if e := s.Lay(0, api.Field, []int{6, 2, 1, 5, 3}); e != api.OK {
		t.Fatal("Lay:", e)
	}
	are(t, s, x, 0, api.Any, 6, 1, 5, 3)
	are(t, s, x, 0, api.Foe, 1, 5)
	are(t, s, x, 0, api.Own, 6, 3)
	move(t, s, 5, api.Field)
	move(t, s, 4, api.Field)
	are(t, s, x, 2, api.Any, 4, 5, 6, 1, 3)
	are(t, s, x, 2, api.Foe, 4, 6, 3)
	are(t, s, x, 2, api.Own, 5, 1)
	s.Move(4, api.Field, true)
	move(t, s, 6, api.Grave)
	are(t, s, x, 3, api.Any, 5, 1, 3, 4)
	are(t, s, x, 3, api.Foe, 3, 4)
	are(t, s, x, 3, api.Own, 5, 1)
}

// What is told ends as soon as no more is asked for, and can be gone over again.
func TestAllEnds(t *testing.T) {
	s, _ := giants(t)
	x := teams(t, 0, 1, 2, 3)
	for on, want := range [][]int{{0}, {1, 3, 5, 6}, {1, 5, 6}, {3}, {1, 2, 3}} {
		l := aim.All(s, x, 0, on)
		for most := 1; most <= len(want)+1; most++ {
			var got []int
			l(func(at int) bool {
				if len(got) == most {
					t.Fatal("asked for no more, and told:", at)
				}
				got = append(got, at)
				return len(got) < most
			})
			if !slices.Equal(got, want[:min(most, len(want))]) {
				t.Errorf("%d of All(0, %d) = %v; want of %v", most, on, got, want)
			}
		}
	}
}

// What was asked of is as it was.
func TestNothingChanges(t *testing.T) {
	s, x := giants(t)
	ws, wx := s.Copy(), x.Copy()
	for seat := range 4 {
		for _, on := range words {
			are(t, s, x, seat, on, slices.Collect(aim.All(ws, wx, seat, on))...)
		}
	}
	if !s.Same(ws) || !x.Same(wx) {
		t.Error("what was asked of has changed")
	}
}

// All tells what is so when it is gone over, not when it was called.
func TestAllAsItIs(t *testing.T) {
	s, x := giants(t)
	all, side := aim.All(s, x, 0, api.Any), aim.All(s, x, 0, api.Side)
	move(t, s, 3, api.Exile)
	move(t, s, 4, api.Field)
	x.Lose(1)
	if l := slices.Collect(all); !slices.Equal(l, []int{4, 1, 5, 6}) {
		t.Error("Any:", l)
	}
	if l := slices.Collect(side); len(l) > 0 {
		t.Error("Side:", l)
	}
}

// What may not be aimed at any more isn't told, though it might have been when that began.
func TestGoneWhileTold(t *testing.T) {
	s, x := giants(t)
	var l []int
	for at := range aim.All(s, x, 0, api.Any) {
		l = append(l, at)
		if e := aim.Check(s, x, 0, api.Any, at); e != api.OK {
			t.Errorf("Check(%d) = %d", at, e)
		}
		move(t, s, at, api.Grave)
		move(t, s, 5, api.InHand)
	}
	if !slices.Equal(l, []int{1, 3, 6}) {
		t.Error(l)
	}
	y := teams(t, 0, 1, 2, 3)
	l = nil
	for n := range aim.All(s, y, 1, api.Side) {
		l = append(l, n)
		y.Lose(n)
		y.Lose(2)
	}
	if !slices.Equal(l, []int{0, 3}) {
		t.Error(l)
	}
}

// The first one is what it is each time it is asked for.
func TestFirstByFirst(t *testing.T) {
	s, x := giants(t)
	for _, want := range []int{1, 5} {
		at, ok := aim.First(s, x, 0, api.Foe)
		if at != want || !ok {
			t.Errorf("First = %d, %t; want %d", at, ok, want)
		}
		move(t, s, at, api.Grave)
	}
	if at, ok := aim.First(s, x, 0, api.Foe); at != 0 || ok {
		t.Errorf("First = %d, %t; want none", at, ok)
	}
}

// may tells by the chapter's words, from lists of what there is, whether something may be aimed at.
func may(kinds map[int]api.Obj, sides []int, lost []bool, seat, on, at int) bool {
	o, live := kinds[at]
	switch on {
	case api.Self:
		return at == 0
	case api.Any:
		return live
	case api.Foe:
		return live && sides[o.Owner] != sides[seat]
	case api.Own:
		return live && sides[o.Owner] == sides[seat]
	}
	return at >= 0 && at < len(lost) && at != sides[seat] && !lost[at]
}

// isAsSaid asks all that may be asked of a store and teams.
func isAsSaid(t *testing.T, s *object.Store, sides []int, lost []bool) {
	t.Helper()
	x := teams(t, sides...)
	for n, l := range lost {
		if l {
			x.Lose(n)
		}
	}
	live := map[int]api.Obj{}
	for o := range s.Field() {
		if o.Card == bear || o.Card == wall {
			live[o.Id] = o
		}
	}
	for seat := range sides {
		for _, on := range words {
			var want []int
			for _, at := range order(s, on) {
				if may(live, sides, lost, seat, on, at) {
					want = append(want, at)
				}
			}
			are(t, s, x, seat, on, want...)
		}
	}
	if t.Failed() {
		t.Fatal(sides, lost, s.In(0, api.Field))
	}
}

// order is all that could be told, as it would stand.
func order(s *object.Store, on int) []int {
	if on == api.Self || on == api.Side {
		return []int{0, 1, 2, 3}
	}
	return s.In(0, api.Field)
}

// sidesOf calls do with all sides of so many seats.
func sidesOf(seats int, l []int, do func(sides []int)) {
	if len(l) == seats {
		if _, e := team.New(l, slices.Repeat([]int{1}, slices.Max(l)+1)); e == api.OK {
			do(l)
		}
		return
	}
	for n := range 4 {
		sidesOf(seats, append(slices.Clone(l), n), do)
	}
}

// All sides of up to four seats, all ways for teams to have lost, and objects of all kinds in many places.
func TestAllStates(t *testing.T) {
	for seats := 1; seats <= 4; seats++ {
		s := store(t, seats)
		for n := range 20 {
			zone := api.Field
			if n%4 == 3 {
				zone = zones[n%7]
			}
			s.Add(n%5, (n/5+n)%seats, zone)
		}
		l := s.In(0, api.Field)
		slices.Reverse(l)
		s.Lay(0, api.Field, append(l[7:], l[:7]...))
		sidesOf(seats, nil, func(sides []int) {
			n := slices.Max(sides) + 1
			for who := range 1 << n {
				lost := make([]bool, n)
				for i := range n {
					lost[i] = who>>i&1 == 1
				}
				isAsSaid(t, s, sides, lost)
			}
		})
	}
}
