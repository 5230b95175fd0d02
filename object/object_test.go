package object_test

import (
	"math"
	"slices"
	"testing"

	"hydra/api"
	"hydra/object"
)

// The cards of table, by their places.
const (
	land = iota
	bear
	runner
	flyer
	spell
	scheme
	both
	none // there is no such card
)

func table() []api.Card {
	return []api.Card{
		land:   {Kind: api.Land},
		bear:   {Kind: api.Creature, Cost: 2, Power: 2, Tough: 2},
		runner: {Kind: api.Creature, Cost: 1, Power: 1, Tough: 1, Keys: api.Haste},
		flyer:  {Kind: api.Creature, Power: 1, Tough: 3, Keys: api.Flying | api.Vigil | api.Link | api.Toxic},
		spell:  {Kind: api.Spell, Cost: 1, Terms: []api.Term{{Op: api.Hurt, N: 2, On: api.Any}}},
		scheme: {Kind: api.Scheme, Terms: []api.Term{{Op: api.Draw, N: 1}, {Op: api.Heal, N: 3}}},
		both:   {Kind: api.Creature, Tough: 1, Keys: api.Haste | api.Flying, When: api.Dies, Terms: []api.Term{{Op: api.Drain, N: 2}}},
	}
}

// zones is all of them, and what is none.
var (
	zones   = []int{api.Library, api.InHand, api.Field, api.Stack, api.Grave, api.Exile, api.Command}
	noZones = []int{0, -1, api.Command + 1, 100, math.MaxInt, math.MinInt}
	noSeats = []int{-1, 2, 3, 4, 100, math.MaxInt, math.MinInt}
)

func shared(zone int) bool { return zone == api.Field || zone == api.Stack }

func store(t *testing.T, seats int) *object.Store {
	t.Helper()
	s, e := object.New(table(), seats)
	if e != api.OK || s == nil {
		t.Fatal("New:", s, e)
	}
	return s
}

// An entry is what is added to a store.
type entry struct{ n, owner, zone int }

// filled is a store of two seats with objects, numbered as they stand here, from 1 on.
func filled(t *testing.T, l ...entry) *object.Store {
	t.Helper()
	s := store(t, 2)
	for i, x := range l {
		if id, e := s.Add(x.n, x.owner, x.zone); id != i+1 || e != api.OK {
			t.Fatalf("Add(%v) = %d, %d; want %d", x, id, e, i+1)
		}
	}
	return s
}

// is asks whether an object is so.
func is(t *testing.T, s *object.Store, want api.Obj) {
	t.Helper()
	if o, e := s.Get(want.Id); o != want || e != api.OK {
		t.Errorf("Get(%d) = %v, %d; want %v", want.Id, o, e, want)
	}
}

// in asks what a pile has, from the top on.
func in(t *testing.T, s *object.Store, seat, zone int, want ...int) {
	t.Helper()
	if l := s.In(seat, zone); !slices.Equal(l, want) {
		t.Errorf("In(%d, %d) = %v; want %v", seat, zone, l, want)
	}
	top := 0
	if len(want) > 0 {
		top = want[0]
	}
	if id, ok := s.Top(seat, zone); id != top || ok != (len(want) > 0) {
		t.Errorf("Top(%d, %d) = %d, %t; want %d", seat, zone, id, ok, top)
	}
}

// tells asks whether a call told what it should.
func tells(t *testing.T, call string, got, want api.Errno) {
	t.Helper()
	if got != want {
		t.Errorf("%s = %d; want %d", call, got, want)
	}
}

// unchanged does something that is to change nothing.
func unchanged(t *testing.T, s *object.Store, do func()) {
	t.Helper()
	was := look(s)
	do()
	if now := look(s); !now.same(was) {
		t.Errorf("changed: %v; it was %v", now, was)
	}
}

// marked is an object with all that it may have besides where it is.
func marked(o api.Obj) api.Obj {
	o.Tapped, o.Sick, o.Attacks = true, true, true
	o.Hurt, o.Count, o.Boost, o.Block = 1, -2, 3, 4
	return o
}

func mark(t *testing.T, s *object.Store, ids ...int) {
	t.Helper()
	for _, id := range ids {
		o, _ := s.Get(id)
		tells(t, "Set", s.Set(marked(o)), api.OK)
	}
}

func TestNew(t *testing.T) {
	for seats := 1; seats <= 4; seats++ {
		s := store(t, seats)
		if s.Seats() != seats || s.Len() != 0 {
			t.Error(seats, s.Seats(), s.Len())
		}
		for range s.All() {
			t.Error("a new store has an object")
		}
		for seat := range seats {
			for _, zone := range zones {
				in(t, s, seat, zone)
				tells(t, "Lay of none", s.Lay(seat, zone, nil), api.OK)
			}
		}
	}
	if s, e := object.New(nil, 1); s == nil || e != api.OK || s.Seats() != 1 {
		t.Error("no table:", s, e)
	}
	if s, e := object.New(make([]api.Card, 0), 4); s == nil || e != api.OK {
		t.Error("an empty table:", s, e)
	}
}

func TestNewRefuses(t *testing.T) {
	full := slices.Repeat([]api.Card{{Kind: api.Land}}, api.MaxCards)
	long := append(slices.Clone(full), api.Card{Kind: api.Land})
	wrong := append(table(), api.Card{Kind: api.Creature})
	for _, v := range []struct {
		name  string
		table []api.Card
		seats int
		want  api.Errno
	}{
		{"a full table", full, 4, api.OK},
		{"no seats", table(), 0, api.ErrSetup},
		{"five seats", table(), 5, api.ErrSetup},
		{"seats below 0", table(), -1, api.ErrSetup},
		{"the most seats", table(), math.MaxInt, api.ErrSetup},
		{"the fewest seats", table(), math.MinInt, api.ErrSetup},
		{"no table, no seats", nil, 0, api.ErrSetup},
		{"a long table", long, 2, api.ErrLong},
		{"a card that may not be", wrong, 2, api.ErrCard},
		{"a zero card", make([]api.Card, 1), 2, api.ErrCard},
		{"a long table and no seats", long, 0, api.ErrLong},
		{"a wrong card and five seats", wrong, 5, api.ErrCard},
	} {
		s, e := object.New(v.table, v.seats)
		if e != v.want || (s == nil) != (e != api.OK) {
			t.Errorf("%s: %v, %d; want %d", v.name, s, e, v.want)
		}
	}
}

func TestAdd(t *testing.T) {
	s := filled(t, entry{land, 0, api.Library}, entry{bear, 1, api.Library}, entry{land, 0, api.Library},
		entry{land, 1, api.Field}, entry{bear, 0, api.Field}, entry{spell, 1, api.Stack}, entry{spell, 0, api.Stack},
		entry{both, 0, api.Library})
	if s.Len() != 8 || s.Seats() != 2 {
		t.Error(s.Len(), s.Seats())
	}
	in(t, s, 0, api.Library, 1, 3, 8)
	in(t, s, 1, api.Library, 2)
	for seat := range 2 {
		in(t, s, seat, api.Field, 4, 5)
		in(t, s, seat, api.Stack, 6, 7)
		in(t, s, seat, api.InHand)
	}
	is(t, s, api.Obj{Id: 1, Card: land, Owner: 0, Zone: api.Library})
	is(t, s, api.Obj{Id: 2, Card: bear, Owner: 1, Zone: api.Library})
	is(t, s, api.Obj{Id: 4, Card: land, Owner: 1, Zone: api.Field})
	is(t, s, api.Obj{Id: 5, Card: bear, Owner: 0, Zone: api.Field, Sick: true})
	is(t, s, api.Obj{Id: 8, Card: both, Owner: 0, Zone: api.Library})
}

// Each card in each zone, of each seat: it is there as when it comes, and nowhere else.
func TestAddAnywhere(t *testing.T) {
	for n := range none {
		for owner := range 4 {
			for _, zone := range zones {
				s := store(t, 4)
				if id, e := s.Add(n, owner, zone); id != 1 || e != api.OK {
					t.Fatal(n, owner, zone, id, e)
				}
				is(t, s, api.Obj{Id: 1, Card: n, Owner: owner, Zone: zone, Sick: comesSick(n, zone)})
				justIn(t, s, 1)
			}
		}
	}
}

// comesSick tells whether a card of table comes sick into a zone.
func comesSick(n, zone int) bool { return zone == api.Field && (n == bear || n == flyer) }

// justIn asks whether an object is in the pile of its owner and zone, and in no other one.
func justIn(t *testing.T, s *object.Store, id int) {
	t.Helper()
	o, _ := s.Get(id)
	for seat := range s.Seats() {
		for _, zone := range zones {
			want := zone == o.Zone && (seat == o.Owner || shared(zone))
			if slices.Contains(s.In(seat, zone), id) != want {
				t.Errorf("%v in seat %d's zone %d: %v", o, seat, zone, s.In(seat, zone))
			}
		}
	}
}

func TestAddRefuses(t *testing.T) {
	s := filled(t, entry{bear, 0, api.Field}, entry{land, 1, api.Library})
	refuses := func(x entry) {
		t.Helper()
		unchanged(t, s, func() {
			if id, e := s.Add(x.n, x.owner, x.zone); id != 0 || e != api.ErrRange {
				t.Errorf("Add(%v) = %d, %d", x, id, e)
			}
		})
	}
	for _, n := range []int{-1, none, 60, math.MaxInt, math.MinInt} {
		refuses(entry{n, 0, api.Library})
		refuses(entry{n, 2, 0})
	}
	for _, seat := range noSeats {
		for _, zone := range zones {
			refuses(entry{land, seat, zone})
		}
	}
	for _, zone := range noZones {
		refuses(entry{land, 0, zone})
	}
	if id, e := s.Add(land, 0, api.Grave); id != 3 || e != api.OK {
		t.Error("what was refused took a number:", id, e)
	}
}

func TestObjectsThatAreNone(t *testing.T) {
	s := filled(t, entry{bear, 0, api.Field}, entry{land, 1, api.Library})
	for _, id := range []int{0, -1, 3, 100, math.MaxInt, math.MinInt} {
		unchanged(t, s, func() {
			if o, e := s.Get(id); o != (api.Obj{}) || e != api.ErrNone {
				t.Errorf("Get(%d) = %v, %d", id, o, e)
			}
			if c, e := s.Card(id); !alike(c, api.Card{}) || e != api.ErrNone {
				t.Errorf("Card(%d) = %v, %d", id, c, e)
			}
			tells(t, "Set", s.Set(api.Obj{Id: id, Card: bear, Zone: api.Field}), api.ErrNone)
			tells(t, "Set of a wrong one", s.Set(api.Obj{Id: id, Card: -1, Owner: 9}), api.ErrNone)
			tells(t, "Move", s.Move(id, api.Grave, false), api.ErrNone)
			tells(t, "Move nowhere", s.Move(id, 0, true), api.ErrNone)
		})
	}
	if _, e := store(t, 1).Get(1); e != api.ErrNone {
		t.Error("of none:", e)
	}
}

func alike(a, b api.Card) bool {
	return a.Kind == b.Kind && a.Cost == b.Cost && a.Power == b.Power && a.Tough == b.Tough &&
		a.Keys == b.Keys && a.When == b.When && slices.Equal(a.Terms, b.Terms)
}

func TestCard(t *testing.T) {
	s := store(t, 2)
	for n := range none {
		s.Add(n, n%2, api.Library)
	}
	for n, want := range table() {
		if c, e := s.Card(n + 1); !alike(c, want) || e != api.OK {
			t.Errorf("Card(%d) = %v, %d; want %v", n+1, c, e, want)
		}
	}
	s.Add(spell, 0, api.Grave)
	if c, e := s.Card(none + 1); !alike(c, table()[spell]) || e != api.OK {
		t.Error("a second one of a card:", c, e)
	}
}

func TestSet(t *testing.T) {
	s := filled(t, entry{bear, 0, api.Field}, entry{runner, 1, api.Field}, entry{land, 1, api.Grave})
	for id := 1; id <= 3; id++ {
		was, _ := s.Get(id)
		where := api.Obj{Id: id, Card: was.Card, Owner: was.Owner, Zone: was.Zone}
		for _, o := range []api.Obj{marked(was), where, was} {
			tells(t, "Set", s.Set(o), api.OK)
			is(t, s, o)
		}
		far := where
		far.Hurt, far.Count, far.Boost, far.Block = math.MaxInt, math.MinInt, -1, math.MaxInt
		tells(t, "Set", s.Set(far), api.OK)
		is(t, s, far)
		tells(t, "Set", s.Set(was), api.OK)
	}
	// Of others, and of where they are, nothing changes.
	mark(t, s, 2)
	is(t, s, api.Obj{Id: 1, Card: bear, Zone: api.Field, Sick: true})
	is(t, s, marked(api.Obj{Id: 2, Card: runner, Owner: 1, Zone: api.Field}))
	is(t, s, api.Obj{Id: 3, Card: land, Owner: 1, Zone: api.Grave})
	in(t, s, 0, api.Field, 1, 2)
	in(t, s, 1, api.Grave, 3)
}

func TestSetRefuses(t *testing.T) {
	s := filled(t, entry{bear, 0, api.Field}, entry{bear, 1, api.InHand})
	mark(t, s, 1)
	for id := 1; id <= 2; id++ {
		was, _ := s.Get(id)
		for _, change := range []func(o *api.Obj){
			func(o *api.Obj) { o.Card = land },
			func(o *api.Obj) { o.Card = none },
			func(o *api.Obj) { o.Owner = 1 - o.Owner },
			func(o *api.Obj) { o.Owner = 9 },
			func(o *api.Obj) { o.Zone = api.Grave },
			func(o *api.Obj) { o.Zone = 0 },
			func(o *api.Obj) { o.Card, o.Owner, o.Zone = land, 1-o.Owner, api.Exile },
			func(o *api.Obj) { *o = api.Obj{Id: o.Id} },
		} {
			o := was
			o.Hurt = 7
			change(&o)
			unchanged(t, s, func() { tells(t, "Set", s.Set(o), api.ErrArg) })
		}
	}
}

// From each zone to each zone, of each card: the object lies on top or under, as if it had just come.
func TestMove(t *testing.T) {
	for _, from := range zones {
		for _, to := range zones {
			for n := range none {
				moves(t, n, from, to, false)
				moves(t, n, from, to, true)
			}
		}
	}
}

func moves(t *testing.T, n, from, to int, under bool) {
	t.Helper()
	s := filled(t, entry{land, 1, from}, entry{n, 1, from}, entry{land, 1, from})
	if to != from {
		s.Add(land, 1, to)
		s.Add(land, 1, to)
	}
	s.Add(bear, 0, api.Grave)
	all := s.Len()
	for id := 1; id <= all; id++ {
		mark(t, s, id)
	}
	tells(t, "Move", s.Move(2, to, under), api.OK)
	is(t, s, api.Obj{Id: 2, Card: n, Owner: 1, Zone: to, Sick: comesSick(n, to)})
	for id := 1; id <= all; id++ {
		if o, _ := s.Get(id); id != 2 && o != marked(o) {
			t.Errorf("another one changed: %v", o)
		}
		justIn(t, s, id)
	}
	rest := []int{1, 3}
	if to != from {
		in(t, s, 1, from, rest...)
		rest = []int{4, 5}
	}
	if under {
		in(t, s, 1, to, append(rest, 2)...)
	} else {
		in(t, s, 1, to, append([]int{2}, rest...)...)
	}
	if s.Len() != all {
		t.Error("objects came or went:", s.Len())
	}
}

// It goes to its owner's pile, whoever has other ones there.
func TestMoveToOwner(t *testing.T) {
	s := filled(t, entry{bear, 0, api.Library}, entry{bear, 1, api.Library}, entry{bear, 0, api.Library}, entry{bear, 1, api.Library})
	for id := 1; id <= 4; id++ {
		tells(t, "Move", s.Move(id, api.Field, false), api.OK)
	}
	in(t, s, 0, api.Field, 4, 3, 2, 1)
	in(t, s, 1, api.Field, 4, 3, 2, 1)
	for _, id := range []int{2, 3, 1, 4} {
		tells(t, "Move", s.Move(id, api.Grave, false), api.OK)
	}
	in(t, s, 0, api.Grave, 1, 3)
	in(t, s, 1, api.Grave, 4, 2)
	in(t, s, 0, api.Field)
	tells(t, "Move", s.Move(3, api.Grave, false), api.OK)
	in(t, s, 0, api.Grave, 3, 1)
	tells(t, "Move", s.Move(3, api.Grave, true), api.OK)
	in(t, s, 0, api.Grave, 1, 3)
	tells(t, "Move", s.Move(3, api.Grave, true), api.OK)
	in(t, s, 0, api.Grave, 1, 3)
}

func TestMoveForgets(t *testing.T) {
	s := filled(t, entry{bear, 0, api.InHand})
	tells(t, "Move", s.Move(1, api.Field, false), api.OK)
	is(t, s, api.Obj{Id: 1, Card: bear, Zone: api.Field, Sick: true})
	tells(t, "Set", s.Set(api.Obj{Id: 1, Card: bear, Zone: api.Field, Hurt: 1, Tapped: true}), api.OK)
	tells(t, "Move", s.Move(1, api.Field, false), api.OK)
	is(t, s, api.Obj{Id: 1, Card: bear, Zone: api.Field, Sick: true})
	mark(t, s, 1)
	tells(t, "Move", s.Move(1, api.InHand, false), api.OK)
	is(t, s, api.Obj{Id: 1, Card: bear, Zone: api.InHand})
	tells(t, "Move", s.Move(1, api.Field, true), api.OK)
	is(t, s, api.Obj{Id: 1, Card: bear, Zone: api.Field, Sick: true})
}

func TestMoveRefuses(t *testing.T) {
	s := filled(t, entry{bear, 0, api.Field}, entry{land, 1, api.Library})
	mark(t, s, 1, 2)
	for _, zone := range noZones {
		for id := 1; id <= 2; id++ {
			unchanged(t, s, func() {
				tells(t, "Move", s.Move(id, zone, false), api.ErrRange)
				tells(t, "Move under", s.Move(id, zone, true), api.ErrRange)
			})
		}
	}
}

func TestInOfNoPile(t *testing.T) {
	s := store(t, 2)
	for i, zone := range zones {
		for seat := range 2 {
			s.Add(land, seat, zone)
		}
		ids := []int{2*i + 1, 2*i + 2}
		for _, seat := range noSeats {
			if shared(zone) {
				in(t, s, seat, zone, ids...)
			} else {
				in(t, s, seat, zone)
			}
		}
	}
	for _, zone := range noZones {
		in(t, s, 0, zone)
		in(t, s, -1, zone)
	}
}

func TestLay(t *testing.T) {
	for _, zone := range zones {
		s := filled(t, entry{bear, 0, zone}, entry{land, 0, zone}, entry{land, 0, zone}, entry{land, 0, zone})
		s.Add(land, 1, api.Library)
		mark(t, s, 1, 2, 3, 4, 5)
		want := look(s)
		ids := []int{3, 1, 4, 2}
		tells(t, "Lay", s.Lay(0, zone, ids), api.OK)
		want.zones[zone] = slices.Clone(ids)
		if zone == api.Library {
			want.zones[zone] = append(want.zones[zone], 5)
		}
		if now := look(s); !now.same(want) {
			t.Errorf("Lay: %v; want %v", now, want)
		}
		ids[0] = 9
		in(t, s, 0, zone, 3, 1, 4, 2)
		tells(t, "Move", s.Move(4, zone, false), api.OK)
		in(t, s, 0, zone, 4, 3, 1, 2)
	}
}

// Field and Stack are one pile each: they are laid whatever the seat is, with all that is there.
func TestLayOfAllSeats(t *testing.T) {
	for _, zone := range []int{api.Field, api.Stack} {
		for _, seat := range append([]int{0, 1}, noSeats...) {
			s := filled(t, entry{bear, 0, zone}, entry{bear, 1, zone}, entry{land, 1, zone})
			tells(t, "Lay", s.Lay(seat, zone, []int{3, 1, 2}), api.OK)
			in(t, s, 0, zone, 3, 1, 2)
			in(t, s, 1, zone, 3, 1, 2)
			unchanged(t, s, func() { tells(t, "Lay of a seat's", s.Lay(seat, zone, []int{3, 2}), api.ErrArg) })
		}
	}
}

func TestLayRefuses(t *testing.T) {
	for _, zone := range zones {
		s := filled(t, entry{bear, 0, zone}, entry{land, 0, zone}, entry{land, 0, zone}, entry{land, 1, api.Exile})
		if zone == api.Exile {
			s.Move(4, api.Library, false)
		}
		for _, l := range [][]int{nil, {1}, {1, 2}, {2, 3}, {1, 2, 3, 4}, {1, 2, 4}, {1, 1, 2}, {1, 2, 2}, {1, 2, 3, 3}, {1, 2, 3, 1}, {0, 1, 2}, {1, 2, 5}, {-1, 2, 3}, {1, 1, 1}} {
			unchanged(t, s, func() { tells(t, "Lay", s.Lay(0, zone, l), api.ErrArg) })
		}
	}
	s := filled(t, entry{bear, 0, api.InHand}, entry{land, 1, api.InHand})
	for _, l := range [][]int{nil, {1}, {2}, {1, 2}} {
		unchanged(t, s, func() {
			for _, zone := range noZones {
				tells(t, "Lay of no zone", s.Lay(0, zone, l), api.ErrRange)
			}
			for _, seat := range noSeats {
				tells(t, "Lay of no seat", s.Lay(seat, api.InHand, l), api.ErrRange)
			}
		})
	}
	tells(t, "Lay of what another one has", s.Lay(0, api.InHand, []int{2}), api.ErrArg)
	tells(t, "Lay where nothing is", s.Lay(0, api.Grave, []int{1}), api.ErrArg)
}

func TestNilStore(t *testing.T) {
	var s *object.Store
	if id, e := s.Add(0, 0, api.Library); id != 0 || e != api.ErrArg {
		t.Error("Add", id, e)
	}
	if o, e := s.Get(1); o != (api.Obj{}) || e != api.ErrArg {
		t.Error("Get", o, e)
	}
	if c, e := s.Card(1); !alike(c, api.Card{}) || e != api.ErrArg {
		t.Error("Card", c, e)
	}
	tells(t, "Set", s.Set(api.Obj{Id: 1}), api.ErrArg)
	tells(t, "Move", s.Move(1, api.Field, false), api.ErrArg)
	tells(t, "Move nowhere", s.Move(0, 0, true), api.ErrArg)
	tells(t, "Lay", s.Lay(0, api.Field, nil), api.ErrArg)
	tells(t, "Lay nowhere", s.Lay(9, 9, []int{1}), api.ErrArg)
	for _, zone := range append(noZones, zones...) {
		in(t, s, 0, zone)
	}
	for range s.All() {
		t.Error("All tells something")
	}
	for range s.Field() {
		t.Error("Field tells something")
	}
	for range s.Field(0, 1) {
		t.Error("Field(0, 1) tells something")
	}
	if s.Seats() != 0 || s.Len() != 0 || s.Copy() != nil {
		t.Error(s.Seats(), s.Len(), s.Copy())
	}
}

// A Store that New didn't make has no seats: nothing is there, and nothing comes.
func TestZeroStore(t *testing.T) {
	s := new(object.Store)
	if id, e := s.Add(0, 0, api.Field); id != 0 || e != api.ErrRange {
		t.Error("Add", id, e)
	}
	tells(t, "Move", s.Move(1, api.Field, false), api.ErrNone)
	tells(t, "Lay", s.Lay(0, api.Field, nil), api.ErrRange)
	in(t, s, 0, api.Field)
	if s.Seats() != 0 || s.Len() != 0 || !s.Same(s.Copy()) || s.Same(store(t, 1)) || store(t, 1).Same(s) {
		t.Error("a zero store")
	}
	for range s.Field() {
		t.Error("Field tells something")
	}
}
