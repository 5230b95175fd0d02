package object_test

import (
	"slices"
	"testing"

	"hydra/api"
	"hydra/object"
)

// A model is a store by the chapter's words: its objects, and of each zone all that is there, of all seats, from the top on.
type model struct {
	objs  []api.Obj
	zones [api.Command + 1][]int
}

func (m model) clone() model {
	m.objs = slices.Clone(m.objs)
	for i, l := range m.zones {
		m.zones[i] = slices.Clone(l)
	}
	return m
}

// in is what one seat's pile has; of the piles for all seats all.
func (m model) in(seat, zone int) []int {
	if zone < api.Library || zone > api.Command {
		return nil
	}
	return slices.DeleteFunc(slices.Clone(m.zones[zone]), func(id int) bool {
		return !shared(zone) && m.objs[id-1].Owner != seat
	})
}

// same tells whether two have the same objects, in the same order in each seat's piles.
func (m model) same(x model) bool {
	if !slices.Equal(m.objs, x.objs) {
		return false
	}
	for zone := range m.zones {
		for seat := range api.MaxSeats {
			if !slices.Equal(m.in(seat, zone), x.in(seat, zone)) {
				return false
			}
		}
	}
	return true
}

// look is the model of what a store tells of itself.
func look(s *object.Store) model {
	var m model
	for id := 1; id <= s.Len(); id++ {
		o, _ := s.Get(id)
		m.objs = append(m.objs, o)
	}
	for _, zone := range zones {
		if shared(zone) {
			m.zones[zone] = s.In(0, zone)
			continue
		}
		for seat := range s.Seats() {
			m.zones[zone] = append(m.zones[zone], s.In(seat, zone)...)
		}
	}
	return m
}

// stands asks a store all that it tells of itself.
func stands(t *testing.T, s *object.Store, m model) {
	t.Helper()
	if s.Len() != len(m.objs) {
		t.Errorf("Len() = %d; want %d", s.Len(), len(m.objs))
		return
	}
	places := 0
	for zone := -1; zone <= api.Command+1; zone++ {
		for seat := -1; seat <= s.Seats(); seat++ {
			in(t, s, seat, zone, m.in(seat, zone)...)
			if seat >= 0 && seat < s.Seats() && (seat == 0 || !shared(zone)) {
				places += len(s.In(seat, zone))
			}
		}
	}
	if places != len(m.objs) {
		t.Errorf("%d objects stand in %d places", len(m.objs), places)
	}
	for _, o := range m.objs {
		is(t, s, o)
	}
	if l := slices.Collect(s.All()); !slices.Equal(l, m.objs) {
		t.Errorf("All() tells %v; want %v", l, m.objs)
	}
	for _, owners := range [][]int{nil, {0}, {1}, {1, 0}} {
		if l := slices.Collect(s.Field(owners...)); !slices.Equal(l, m.field(owners...)) {
			t.Errorf("Field(%v) tells %v; want %v", owners, l, m.field(owners...))
		}
	}
}

func (m model) field(owners ...int) []api.Obj {
	var l []api.Obj
	for _, id := range m.zones[api.Field] {
		if o := m.objs[id-1]; owners == nil || slices.Contains(owners, o.Owner) {
			l = append(l, o)
		}
	}
	return l
}

// A step is a call by which a store changes, and the same by the chapter's words.
type step struct {
	name  string
	do    func(s *object.Store) api.Errno
	model func(m *model) api.Errno
}

func add(n, owner, zone int) step {
	return step{"Add", func(s *object.Store) api.Errno { _, e := s.Add(n, owner, zone); return e }, func(m *model) api.Errno {
		id := len(m.objs) + 1
		m.objs = append(m.objs, api.Obj{Id: id, Card: n, Owner: owner, Zone: zone, Sick: comesSick(n, zone)})
		m.zones[zone] = append(m.zones[zone], id)
		return api.OK
	}}
}

func move(id, zone int, under bool) step {
	return step{"Move", func(s *object.Store) api.Errno { return s.Move(id, zone, under) }, func(m *model) api.Errno {
		if id > len(m.objs) {
			return api.ErrNone
		}
		o := m.objs[id-1]
		m.zones[o.Zone] = slices.DeleteFunc(m.zones[o.Zone], func(x int) bool { return x == id })
		m.objs[id-1] = api.Obj{Id: id, Card: o.Card, Owner: o.Owner, Zone: zone, Sick: comesSick(o.Card, zone)}
		at := 0
		if under {
			at = len(m.zones[zone])
		}
		m.zones[zone] = slices.Insert(m.zones[zone], at, id)
		return api.OK
	}}
}

func set(id int) step {
	return step{"Set", func(s *object.Store) api.Errno {
		o, e := s.Get(id)
		if e != api.OK {
			return e
		}
		return s.Set(marked(o))
	}, func(m *model) api.Errno {
		if id > len(m.objs) {
			return api.ErrNone
		}
		m.objs[id-1] = marked(m.objs[id-1])
		return api.OK
	}}
}

// lay lays a pile turned round.
func lay(seat, zone int) step {
	return step{"Lay", func(s *object.Store) api.Errno {
		l := s.In(seat, zone)
		slices.Reverse(l)
		return s.Lay(seat, zone, l)
	}, func(m *model) api.Errno {
		l := m.in(seat, zone)
		for i, id := range m.zones[zone] {
			if slices.Contains(l, id) {
				m.zones[zone][i] = 0
			}
		}
		for i, id := range m.zones[zone] {
			if id == 0 {
				m.zones[zone][i], l = l[len(l)-1], l[:len(l)-1]
			}
		}
		return api.OK
	}}
}

// All stores that come of a few steps, in whichever order, are what their models are; and so are their copies.
func TestAllShortWays(t *testing.T) {
	steps := []step{
		add(bear, 0, api.Field), add(runner, 1, api.Library), set(1), set(4),
		lay(0, api.Library), lay(1, api.Field), lay(1, api.Stack), lay(1, api.Grave),
	}
	for id := 1; id <= 4; id++ {
		for _, zone := range []int{api.Library, api.Field, api.Grave} {
			steps = append(steps, move(id, zone, false), move(id, zone, true))
		}
	}
	s, m := store(t, 2), model{}
	for _, v := range []step{add(bear, 0, api.Library), add(runner, 1, api.Field), add(land, 0, api.Library)} {
		v.do(s)
		v.model(&m)
	}
	goAllWays(t, steps, s, m, 3)
}

func goAllWays(t *testing.T, steps []step, s *object.Store, m model, left int) {
	t.Helper()
	stands(t, s, m)
	if left == 0 || t.Failed() {
		return
	}
	for _, v := range steps {
		c, next := s.Copy(), m.clone()
		if got, want := v.do(c), v.model(&next); got != want {
			t.Fatalf("%s of %v = %d; want %d", v.name, m, got, want)
		}
		if c.Same(s) != next.same(m) || s.Same(c) != next.same(m) {
			t.Fatalf("%s of %v: Same(%v) = %t", v.name, m, next, c.Same(s))
		}
		goAllWays(t, steps, c, next, left-1)
	}
	stands(t, s, m)
}
