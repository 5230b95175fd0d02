package mana_test

import (
	"math"
	"slices"
	"testing"

	"hydra/api"
	"hydra/mana"
	"hydra/object"
)

// The cards of table, by their places.
const (
	land = iota
	bear
	runner
	spell
	scheme
	otherLand
)

func table() []api.Card {
	return []api.Card{
		land:      {Kind: api.Land},
		bear:      {Kind: api.Creature, Cost: 2, Power: 2, Tough: 2},
		runner:    {Kind: api.Creature, Cost: 1, Power: 1, Tough: 1, Keys: api.Haste},
		spell:     {Kind: api.Spell, Cost: 1, Terms: []api.Term{{Op: api.Hurt, N: 2, On: api.Any}}},
		scheme:    {Kind: api.Scheme, Terms: []api.Term{{Op: api.Draw, N: 1}}},
		otherLand: {Kind: api.Land},
	}
}

var (
	offField = []int{api.Library, api.InHand, api.Stack, api.Grave, api.Exile, api.Command}
	noSeats  = []int{-1, 3, 4, 100, math.MaxInt, math.MinInt}
	noIds    = []int{0, -1, 100, math.MaxInt, math.MinInt}
)

// An entry is what is added to a store.
type entry struct{ n, owner, zone int }

// filled is a store of three seats with objects, numbered as they stand here, from 1 on.
func filled(t *testing.T, l ...entry) *object.Store {
	t.Helper()
	s, e := object.New(table(), 3)
	if e != api.OK {
		t.Fatal("New:", e)
	}
	for i, x := range l {
		if id, e := s.Add(x.n, x.owner, x.zone); id != i+1 || e != api.OK {
			t.Fatalf("Add(%v) = %d, %d; want %d", x, id, e, i+1)
		}
	}
	return s
}

// lands is a store in which seat 0 has some Lands on the Field, numbered from 1 on, and nobody has anything else.
func lands(t *testing.T, n int) *object.Store {
	t.Helper()
	return filled(t, slices.Repeat([]entry{{land, 0, api.Field}}, n)...)
}

// mixed is a store with objects of all kinds on the Field and beside it.
func mixed(t *testing.T) *object.Store {
	t.Helper()
	return filled(t,
		entry{bear, 0, api.Field}, entry{land, 1, api.Field}, entry{otherLand, 0, api.Field},
		entry{land, 0, api.InHand}, entry{land, 0, api.Field}, entry{spell, 0, api.Field},
		entry{runner, 0, api.Field}, entry{scheme, 0, api.Field}, entry{land, 0, api.Field},
		entry{land, 1, api.Field}, entry{bear, 1, api.Field}, entry{land, 0, api.Grave},
	)
}

// set lets objects be so.
func set(t *testing.T, s *object.Store, so func(o *api.Obj), ids ...int) {
	t.Helper()
	for _, id := range ids {
		o, e := s.Get(id)
		if e != api.OK {
			t.Fatalf("Get(%d): %d", id, e)
		}
		so(&o)
		if e := s.Set(o); e != api.OK {
			t.Fatalf("Set(%v): %d", o, e)
		}
	}
}

func tapped(o *api.Obj) { o.Tapped = true }
func sick(o *api.Obj)   { o.Sick = true }
func fresh(o *api.Obj)  { o.Tapped, o.Sick = false, false }

// marked is all that an object may have, but for being tapped or sick.
func marked(o *api.Obj) {
	o.Attacks = true
	o.Hurt, o.Count, o.Boost, o.Block = 1, -2, 3, 4
}

// has asks what lands a seat has, by all functions that tell it.
func has(t *testing.T, s *object.Store, seat int, want ...int) {
	t.Helper()
	if l := mana.Lands(s, seat); !slices.Equal(l, want) {
		t.Errorf("Lands(%d) = %v; want %v", seat, l, want)
	}
	if n := mana.Has(s, seat); n != len(want) {
		t.Errorf("Has(%d) = %d; want %d", seat, n, len(want))
	}
	for _, cost := range costs(len(want)) {
		if ok := mana.Can(s, seat, cost); ok != (cost >= 0 && cost <= len(want)) {
			t.Errorf("Can(%d, %d) = %t with %v", seat, cost, ok, want)
		}
	}
}

// costs is all small costs, and those at the ends of what numbers there are.
func costs(most int) []int {
	l := []int{math.MinInt, math.MinInt + 1, math.MaxInt - 1, math.MaxInt}
	for cost := -3; cost <= most+3; cost++ {
		l = append(l, cost)
	}
	return l
}

// tells asks whether a call told what it should.
func tells(t *testing.T, call string, got, want api.Errno) {
	t.Helper()
	if got != want {
		t.Errorf("%s = %d; want %d", call, got, want)
	}
}

// same asks whether a store is what it should be.
func same(t *testing.T, call string, s, want *object.Store) {
	t.Helper()
	if !s.Same(want) {
		t.Errorf("%s left %v; want %v", call, slices.Collect(s.All()), slices.Collect(want.All()))
	}
}

func TestLands(t *testing.T) {
	s := mixed(t)
	was := s.Copy()
	has(t, s, 0, 3, 5, 9)
	has(t, s, 1, 2, 10)
	has(t, s, 2)
	same(t, "Lands", s, was)
}

func TestLandsRise(t *testing.T) {
	s := lands(t, 4)
	for _, order := range [][]int{{4, 3, 2, 1}, {3, 1, 4, 2}, {2, 4, 1, 3}, {1, 2, 3, 4}} {
		tells(t, "Lay", s.Lay(0, api.Field, order), api.OK)
		has(t, s, 0, 1, 2, 3, 4)
	}
	s.Move(2, api.Field, false)
	s.Move(1, api.Field, true)
	has(t, s, 0, 1, 2, 3, 4)
}

func TestLandsAreOfTheField(t *testing.T) {
	for _, zone := range offField {
		s := lands(t, 3)
		tells(t, "Move", s.Move(2, zone, false), api.OK)
		has(t, s, 0, 1, 3)
		s.Move(2, api.Field, false)
		has(t, s, 0, 1, 2, 3)
	}
}

// Just being tapped counts: nothing else that a Land may have does.
func TestLandsAreNotTapped(t *testing.T) {
	s := lands(t, 3)
	set(t, s, marked, 1, 2, 3)
	set(t, s, sick, 1, 2, 3)
	has(t, s, 0, 1, 2, 3)
	set(t, s, tapped, 2)
	has(t, s, 0, 1, 3)
	set(t, s, tapped, 1, 3)
	has(t, s, 0)
	set(t, s, fresh, 3)
	has(t, s, 0, 3)
}

func TestLandsAreOwnMemory(t *testing.T) {
	s := lands(t, 3)
	l, m := mana.Lands(s, 0), mana.Lands(s, 0)
	l[0] = 9
	_ = append(l[:1], 8)
	if !slices.Equal(m, []int{1, 2, 3}) {
		t.Error(m)
	}
	has(t, s, 0, 1, 2, 3)
}

// Who has no seat has nothing: a cost of 0 is paid all the same.
func TestNoSeat(t *testing.T) {
	s := mixed(t)
	set(t, s, tapped, 1, 2, 3)
	was := s.Copy()
	for _, seat := range noSeats {
		has(t, s, seat)
		tells(t, "Pay of 0", mana.Pay(s, seat, 0), api.OK)
		tells(t, "Pay of 1", mana.Pay(s, seat, 1), api.ErrMana)
		tells(t, "Pay of -1", mana.Pay(s, seat, -1), api.ErrArg)
		if n := mana.Untap(s, seat); n != 0 {
			t.Errorf("Untap(%d) = %d", seat, n)
		}
	}
	same(t, "no seat", s, was)
}

func TestNoStore(t *testing.T) {
	has(t, nil, 0)
	has(t, nil, -1)
	for _, cost := range costs(1) {
		tells(t, "Pay of nil", mana.Pay(nil, 0, cost), api.ErrArg)
	}
	for _, id := range append(noIds, 1) {
		tells(t, "Taps of nil", mana.Taps(nil, id), api.ErrArg)
	}
	if mana.Untap(nil) != 0 || mana.Untap(nil, 0, 1) != 0 {
		t.Error("Untap of nil")
	}
}

func TestZeroStore(t *testing.T) {
	var s object.Store
	has(t, &s, 0)
	tells(t, "Pay of 0", mana.Pay(&s, 0, 0), api.OK)
	tells(t, "Pay of 1", mana.Pay(&s, 0, 1), api.ErrMana)
	tells(t, "Taps", mana.Taps(&s, 1), api.ErrNone)
	if mana.Untap(&s) != 0 || mana.Untap(&s, 0, 1) != 0 {
		t.Error("Untap of nothing")
	}
}

// The chapter's example.
func TestPayOnce(t *testing.T) {
	s := lands(t, 3)
	tells(t, "Pay", mana.Pay(s, 0, 2), api.OK)
	has(t, s, 0, 3)
	tells(t, "Pay again", mana.Pay(s, 0, 2), api.ErrMana)
	has(t, s, 0, 3)
	tells(t, "Pay the rest", mana.Pay(s, 0, 1), api.OK)
	has(t, s, 0)
	tells(t, "Pay nothing", mana.Pay(s, 0, 0), api.OK)
	tells(t, "Pay more", mana.Pay(s, 0, 1), api.ErrMana)
}

func TestPayTapsTheLeast(t *testing.T) {
	s := mixed(t)
	set(t, s, marked, 3, 5, 9)
	s.Lay(0, api.Field, []int{9, 1, 2, 5, 11, 3, 6, 7, 10, 8})
	want := s.Copy()
	set(t, want, tapped, 3, 5)
	tells(t, "Pay", mana.Pay(s, 0, 2), api.OK)
	same(t, "Pay", s, want)
	set(t, s, fresh, 3)
	set(t, want, fresh, 3)
	set(t, want, tapped, 3, 9)
	tells(t, "Pay", mana.Pay(s, 0, 2), api.OK)
	same(t, "Pay", s, want)
}

func TestPayRefuses(t *testing.T) {
	s := mixed(t)
	was := s.Copy()
	for _, c := range []struct {
		seat, cost int
		want       api.Errno
	}{
		{0, -1, api.ErrArg}, {0, math.MinInt, api.ErrArg}, {2, -1, api.ErrArg}, {100, -1, api.ErrArg},
		{0, 4, api.ErrMana}, {0, math.MaxInt, api.ErrMana}, {1, 3, api.ErrMana}, {2, 1, api.ErrMana},
	} {
		tells(t, "Pay", mana.Pay(s, c.seat, c.cost), c.want)
		same(t, "Pay", s, was)
	}
}

// A turn round: all is paid, comes back, and is paid again.
func TestPayAndUntap(t *testing.T) {
	s := mixed(t)
	set(t, s, fresh, 1, 11)
	was := s.Copy()
	for range 3 {
		tells(t, "Pay", mana.Pay(s, 0, 3), api.OK)
		tells(t, "Pay", mana.Pay(s, 1, 2), api.OK)
		has(t, s, 0)
		has(t, s, 1)
		if n := mana.Untap(s, 0, 1); n != 5 {
			t.Error("Untap:", n)
		}
		same(t, "Untap", s, was)
	}
}

func TestUntap(t *testing.T) {
	for _, c := range []struct {
		seats, ids []int
	}{
		{[]int{0}, []int{1, 3, 5}},
		{[]int{1}, []int{10, 11}},
		{[]int{1, 0}, []int{1, 3, 5, 10, 11}},
		{[]int{0, 0}, []int{1, 3, 5}},
		{[]int{0, 2, -1, 100}, []int{1, 3, 5}},
		{[]int{2}, nil},
		{[]int{}, nil},
		{nil, nil},
	} {
		s := mixed(t) // here 1 and 11, bears, are sick
		set(t, s, marked, 1, 3, 5, 6, 11)
		set(t, s, tapped, 1, 3, 10, 4) // 4 is in a hand
		set(t, s, sick, 3, 5, 12)      // 12 is in a Grave
		want := s.Copy()
		set(t, want, fresh, c.ids...)
		seats := slices.Clone(c.seats)
		if n := mana.Untap(s, seats...); n != len(c.ids) {
			t.Errorf("Untap(%v) = %d; want %d", c.seats, n, len(c.ids))
		}
		same(t, "Untap", s, want)
		if !slices.Equal(seats, c.seats) {
			t.Error("Untap wrote into its argument:", seats)
		}
		if n := mana.Untap(s, seats...); n != 0 {
			t.Errorf("Untap(%v) again = %d", c.seats, n)
		}
		same(t, "Untap again", s, want)
	}
}

// Any object on the Field may be tapped, whatever it is, and whoever owns it; once.
func TestTaps(t *testing.T) {
	s := mixed(t)
	set(t, s, marked, 1, 3)
	for _, id := range s.In(0, api.Field) {
		want := s.Copy()
		set(t, want, tapped, id)
		tells(t, "Taps", mana.Taps(s, id), api.OK)
		same(t, "Taps", s, want)
		tells(t, "Taps again", mana.Taps(s, id), api.ErrTapped)
		same(t, "Taps again", s, want)
	}
	has(t, s, 0)
	has(t, s, 1)
}

func TestTapsRefuses(t *testing.T) {
	s := mixed(t)
	was := s.Copy()
	for _, id := range append(noIds, s.Len()+1) {
		tells(t, "Taps", mana.Taps(s, id), api.ErrNone)
		same(t, "Taps", s, was)
	}
}

func TestTapsOffTheField(t *testing.T) {
	for _, zone := range offField {
		s := filled(t, entry{land, 0, zone}, entry{bear, 1, zone}, entry{land, 0, zone})
		set(t, s, tapped, 3)
		was := s.Copy()
		for id := 1; id <= 3; id++ {
			// Where it is is asked ahead of whether it is tapped.
			tells(t, "Taps", mana.Taps(s, id), api.ErrZone)
			same(t, "Taps", s, was)
		}
	}
}

// A state is which objects are tapped, and which are sick.
func state(t *testing.T, bits int) *object.Store {
	t.Helper()
	s := filled(t,
		entry{land, 0, api.Field}, entry{runner, 0, api.Field}, entry{land, 1, api.Field},
		entry{land, 0, api.Field}, entry{land, 0, api.Field},
	)
	for i := range s.Len() {
		set(t, s, func(o *api.Obj) { o.Tapped, o.Sick = bits>>i&1 == 1, bits>>(i+5)&1 == 1 }, i+1)
	}
	s.Lay(0, api.Field, []int{4, 1, 5, 3, 2})
	return s
}

// where is the numbers, rising, of the objects of which something is so.
func where(s *object.Store, is func(o api.Obj) bool) []int {
	var l []int
	for o := range s.All() {
		if is(o) {
			l = append(l, o.Id)
		}
	}
	return l
}

// All states of a small Field: what each seat has, what each cost does, and what Untap does.
func TestAllStates(t *testing.T) {
	for bits := range 1 << 10 {
		s := state(t, bits)
		for seat := range 3 {
			l := where(s, func(o api.Obj) bool { return o.Owner == seat && o.Card == land && !o.Tapped })
			has(t, s, seat, l...)
			for cost := -1; cost <= len(l)+1; cost++ {
				payIs(t, s.Copy(), seat, cost, l)
			}
		}
		for _, seats := range [][]int{nil, {0}, {1}, {2}, {0, 1}, {1, 0, 1}} {
			untapIs(t, s.Copy(), seats)
		}
		if t.Failed() {
			t.Fatalf("state %010b", bits)
		}
	}
}

func payIs(t *testing.T, s *object.Store, seat, cost int, l []int) {
	t.Helper()
	want, e := s.Copy(), api.OK
	switch {
	case cost < 0:
		e = api.ErrArg
	case cost > len(l):
		e = api.ErrMana
	default:
		set(t, want, tapped, l[:cost]...)
	}
	tells(t, "Pay", mana.Pay(s, seat, cost), e)
	same(t, "Pay", s, want)
}

func untapIs(t *testing.T, s *object.Store, seats []int) {
	t.Helper()
	want := s.Copy()
	l := where(s, func(o api.Obj) bool { return slices.Contains(seats, o.Owner) && (o.Tapped || o.Sick) })
	set(t, want, fresh, l...)
	if n := mana.Untap(s, seats...); n != len(l) {
		t.Errorf("Untap(%v) = %d; want %d", seats, n, len(l))
	}
	same(t, "Untap", s, want)
}
