package object_test

import (
	"iter"
	"slices"
	"testing"

	"hydra/api"
	"hydra/object"
)

// ids is the numbers of what is told.
func ids(seq iter.Seq[api.Obj]) []int {
	var l []int
	for o := range seq {
		l = append(l, o.Id)
	}
	return l
}

// scattered is a store of two seats with objects in many zones, four of them on the Field.
func scattered(t *testing.T) *object.Store {
	t.Helper()
	s := filled(t, entry{bear, 1, api.Field}, entry{land, 0, api.Library}, entry{runner, 0, api.Field}, entry{spell, 1, api.Stack},
		entry{land, 1, api.Field}, entry{flyer, 1, api.Grave}, entry{land, 0, api.Field})
	s.Move(5, api.Field, false)
	return s
}

func TestAll(t *testing.T) {
	s := scattered(t)
	if l := ids(s.All()); !slices.Equal(l, []int{1, 2, 3, 4, 5, 6, 7}) {
		t.Error(l)
	}
	for o := range s.All() {
		is(t, s, o)
	}
	for range store(t, 2).All() {
		t.Error("an empty store tells something")
	}
}

func TestField(t *testing.T) {
	s := scattered(t)
	in(t, s, 0, api.Field, 5, 1, 3, 7)
	for _, v := range []struct {
		owners, want []int
	}{
		{nil, []int{5, 1, 3, 7}},
		{[]int{}, []int{5, 1, 3, 7}},
		{[]int{0}, []int{3, 7}},
		{[]int{1}, []int{5, 1}},
		{[]int{0, 1}, []int{5, 1, 3, 7}},
		{[]int{1, 0}, []int{5, 1, 3, 7}},
		{[]int{1, 1, 9}, []int{5, 1}},
		{[]int{2}, nil},
		{[]int{-1, 4}, nil},
	} {
		if l := ids(s.Field(v.owners...)); !slices.Equal(l, v.want) {
			t.Errorf("Field(%v) tells %v; want %v", v.owners, l, v.want)
		}
	}
	for o := range s.Field() {
		is(t, s, o)
	}
	for range store(t, 2).Field() {
		t.Error("an empty Field tells something")
	}
}

func TestToldAsFarAsAsked(t *testing.T) {
	s := scattered(t)
	for name, seq := range map[string]iter.Seq[api.Obj]{"All": s.All(), "Field": s.Field(), "Field(0, 1)": s.Field(0, 1)} {
		for stop := 1; stop <= 4; stop++ {
			calls := 0
			seq(func(api.Obj) bool {
				calls++
				return calls < stop
			})
			if calls != stop {
				t.Errorf("%s: told %d; asked for %d", name, calls, stop)
			}
		}
	}
}

// What is told is the store as it was when it began, whatever comes of it meanwhile.
func TestToldAsItWas(t *testing.T) {
	for _, change := range []func(s *object.Store){
		func(s *object.Store) { s.Move(1, api.Grave, false) },
		func(s *object.Store) { s.Move(7, api.Field, false); s.Move(3, api.Exile, true) },
		func(s *object.Store) { s.Lay(0, api.Field, []int{7, 3, 1, 5}) },
		func(s *object.Store) { s.Add(bear, 0, api.Field); s.Move(2, api.Field, false) },
		func(s *object.Store) { mark(t, s, 1, 3, 5, 7) },
	} {
		for _, told := range []func(s *object.Store) iter.Seq[api.Obj]{
			func(s *object.Store) iter.Seq[api.Obj] { return s.All() },
			func(s *object.Store) iter.Seq[api.Obj] { return s.Field() },
			func(s *object.Store) iter.Seq[api.Obj] { return s.Field(1, 0) },
		} {
			s := scattered(t)
			want := slices.Collect(told(s))
			var l []api.Obj
			seq := told(s)
			for o := range seq {
				if len(l) == 0 {
					change(s)
				}
				l = append(l, o)
			}
			if !slices.Equal(l, want) {
				t.Errorf("told %v; want %v", l, want)
			}
			// A new beginning tells what is there then.
			if l := slices.Collect(seq); !slices.Equal(l, slices.Collect(told(s))) {
				t.Errorf("told again, it isn't as it is now: %v", l)
			}
		}
	}
}

// All on the Field may be moved away as they are told.
func TestFieldClearedAsItIsTold(t *testing.T) {
	s := scattered(t)
	for o := range s.Field() {
		tells(t, "Move", s.Move(o.Id, api.Grave, false), api.OK)
	}
	in(t, s, 0, api.Field)
	in(t, s, 0, api.Grave, 7, 3)
	in(t, s, 1, api.Grave, 1, 5, 6)
}

func TestArgumentsAreNotKept(t *testing.T) {
	l := table()
	s, _ := object.New(l, 2)
	s.Add(spell, 0, api.Library)
	l[spell].Terms[0].N = 9
	l[spell] = api.Card{Kind: api.Land}
	if c, _ := s.Card(1); !alike(c, table()[spell]) {
		t.Error("the table is kept:", c)
	}
	s = scattered(t)
	owners := []int{0}
	seq := s.Field(owners...)
	owners[0] = 1
	if l := ids(seq); !slices.Equal(l, []int{3, 7}) {
		t.Error("the owners are kept:", l)
	}
	order := []int{7, 5, 3, 1}
	s.Lay(0, api.Field, order)
	s.Move(3, api.Field, false)
	if !slices.Equal(order, []int{7, 5, 3, 1}) {
		t.Error("an order is written into:", order)
	}
}

func TestAnswersAreNotKept(t *testing.T) {
	s := filled(t, entry{spell, 0, api.Library}, entry{land, 0, api.Library})
	c, _ := s.Card(1)
	c.Terms[0].N = 9
	if c, _ := s.Card(1); !alike(c, table()[spell]) {
		t.Error("a card's terms are handed out:", c)
	}
	l := s.In(0, api.Library)
	l[0] = 2
	_ = append(l[:1], 7)
	in(t, s, 0, api.Library, 1, 2)
	o, _ := s.Get(1)
	o.Hurt = 5
	is(t, s, api.Obj{Id: 1, Card: spell, Zone: api.Library})
}

func TestCopy(t *testing.T) {
	for _, change := range []func(s *object.Store){
		func(s *object.Store) { s.Add(bear, 1, api.Field) },
		func(s *object.Store) { s.Move(1, api.Grave, false) },
		func(s *object.Store) { s.Move(5, api.Field, true) },
		func(s *object.Store) { s.Lay(0, api.Field, []int{1, 3, 5, 7}) },
		func(s *object.Store) { mark(t, s, 2) },
	} {
		s := scattered(t)
		c := s.Copy()
		if c == s || !c.Same(s) || !look(c).same(look(s)) || c.Seats() != 2 || c.Len() != 7 {
			t.Fatal("Copy:", look(c))
		}
		unchanged(t, s, func() { change(c) })
		c = s.Copy()
		unchanged(t, c, func() { change(s) })
		if c.Same(s) || s.Same(c) {
			t.Error("Same of what changed")
		}
		if d := c.Copy(); !d.Same(c) {
			t.Error("a copy's copy")
		}
	}
	s := store(t, 3)
	if c := s.Copy(); !c.Same(s) || c.Seats() != 3 {
		t.Error("a copy of an empty store")
	}
	c := s.Copy()
	if id, e := c.Add(scheme, 2, api.Command); id != 1 || e != api.OK || s.Len() != 0 {
		t.Error(id, e, s.Len())
	}
	if x, e := c.Card(1); !alike(x, table()[scheme]) || e != api.OK {
		t.Error("a copy's table:", x, e)
	}
}

// Just one thing of an object is another one.
func TestSameOfObjects(t *testing.T) {
	for _, change := range []func(o *api.Obj){
		func(o *api.Obj) { o.Tapped = !o.Tapped },
		func(o *api.Obj) { o.Sick = !o.Sick },
		func(o *api.Obj) { o.Attacks = !o.Attacks },
		func(o *api.Obj) { o.Hurt++ },
		func(o *api.Obj) { o.Count-- },
		func(o *api.Obj) { o.Boost++ },
		func(o *api.Obj) { o.Block++ },
	} {
		a, b := scattered(t), scattered(t)
		if !a.Same(b) || !b.Same(a) || !a.Same(a) {
			t.Fatal("two that came about likewise aren't the same")
		}
		for id := 1; id <= 7; id++ {
			was, _ := b.Get(id)
			o := was
			change(&o)
			tells(t, "Set", b.Set(o), api.OK)
			if a.Same(b) || b.Same(a) {
				t.Errorf("%v is the same as %v", o, was)
			}
			tells(t, "Set", b.Set(was), api.OK)
		}
		if !a.Same(b) {
			t.Error("set back, it isn't the same")
		}
	}
}

// In each zone the order counts, and whose card it is.
func TestSameOfOrders(t *testing.T) {
	for _, zone := range zones {
		for seat := range 2 {
			a := filled(t, entry{land, seat, zone}, entry{land, seat, zone}, entry{land, seat, zone})
			b := a.Copy()
			tells(t, "Lay", b.Lay(seat, zone, []int{1, 3, 2}), api.OK)
			if a.Same(b) || b.Same(a) {
				t.Errorf("another order in zone %d of seat %d is the same", zone, seat)
			}
			tells(t, "Lay", b.Lay(seat, zone, []int{1, 2, 3}), api.OK)
			if !a.Same(b) {
				t.Error("laid back, it isn't the same")
			}
			b.Add(land, seat, zone)
			if a.Same(b) || b.Same(a) {
				t.Error("one more is the same")
			}
		}
		a, b := filled(t, entry{land, 0, zone}), filled(t, entry{land, 1, zone})
		if a.Same(b) || a.Same(filled(t, entry{spell, 0, zone})) {
			t.Error("another owner, or card, is the same")
		}
	}
}

func TestSameOfTables(t *testing.T) {
	a := store(t, 2)
	for _, change := range []func(l []api.Card) []api.Card{
		func(l []api.Card) []api.Card { return l[:len(l)-1] },
		func(l []api.Card) []api.Card { return append(l, l[0]) },
		func(l []api.Card) []api.Card { return append(l[1:], l[0]) },
		func(l []api.Card) []api.Card { l[bear].Cost++; return l },
		func(l []api.Card) []api.Card { l[scheme].Terms[1].N++; return l },
		func(l []api.Card) []api.Card { return nil },
	} {
		b, e := object.New(change(table()), 2)
		if e != api.OK || a.Same(b) || b.Same(a) {
			t.Error("another table is the same:", e)
		}
	}
	if !a.Same(store(t, 2)) || a.Same(store(t, 3)) || store(t, 1).Same(a) {
		t.Error("Same of seats")
	}
}

func TestSameOfNil(t *testing.T) {
	var s *object.Store
	if !s.Same(nil) || s.Same(store(t, 1)) || store(t, 1).Same(nil) {
		t.Error("Same of nil")
	}
}
