package stack_test

import (
	"slices"
	"testing"

	"hydra/api"
	"hydra/effect"
	"hydra/object"
	"hydra/stack"
	"hydra/team"
)

// The cards of table, by their places.
const (
	land = iota
	bear
	hare
	ghost
	guard
	bolt
	doom
	flood
	scheme
)

func table() []api.Card {
	return []api.Card{
		land:   {Kind: api.Land},
		bear:   {Kind: api.Creature, Cost: 2, Power: 2, Tough: 2},
		hare:   {Kind: api.Creature, Power: 1, Tough: 1, Keys: api.Haste, When: api.Attacks, Terms: []api.Term{{Op: api.Heal, N: 1}}},
		ghost:  {Kind: api.Creature, Tough: 1, When: api.Dies, Terms: []api.Term{{Op: api.Drain, N: 2}, {Op: api.Draw, N: 1}}},
		guard:  {Kind: api.Creature, Tough: 4, When: api.Enters, Terms: []api.Term{{Op: api.Heal, N: 1}, {Op: api.Grow, N: 2, On: api.Own}}},
		bolt:   {Kind: api.Spell, Cost: 1, Terms: []api.Term{{Op: api.Hurt, N: 2, On: api.Any}}},
		doom:   {Kind: api.Spell, Cost: 3, Terms: []api.Term{{Op: api.Kill, On: api.Foe}, {Op: api.Draw, N: 2}, {Op: api.Heal, N: 3}}},
		flood:  {Kind: api.Spell, Terms: []api.Term{{Op: api.Drain, N: 1}, {Op: api.Hurt, N: 3, On: api.Side}}},
		scheme: {Kind: api.Scheme, Terms: []api.Term{{Op: api.Drain, N: 4}, {Op: api.Draw, N: 1}}},
	}
}

var zones = []int{api.Library, api.InHand, api.Field, api.Stack, api.Grave, api.Exile, api.Command}

// board is a board of seats of such teams, each of life 20, with objects: of each its card, owner and zone.
func board(t *testing.T, sides []int, l ...[3]int) *effect.Board {
	t.Helper()
	s, e := object.New(table(), len(sides))
	if e != api.OK {
		t.Fatal("object.New:", e)
	}
	x, e := team.New(sides, slices.Repeat([]int{20}, slices.Max(sides)+1))
	if e != api.OK {
		t.Fatal("team.New:", e)
	}
	b, e := effect.New(s, x)
	if e != api.OK {
		t.Fatal("effect.New:", e)
	}
	for _, x := range l {
		if _, e := b.Add(x[0], x[1], x[2]); e != api.OK {
			t.Fatalf("Add(%v): %d", x, e)
		}
	}
	return b
}

// giants is two heads against two: 1 to 4 are bears on the Field, one of each seat; 5 to 12 are cards of seat 1 on the Stack, from land but bear to scheme; then some Lands in Libraries.
func giants(t *testing.T) *effect.Board {
	t.Helper()
	l := [][3]int{{bear, 0, api.Field}, {bear, 1, api.Field}, {bear, 2, api.Field}, {bear, 3, api.Field}}
	for _, n := range []int{land, hare, ghost, guard, bolt, doom, flood, scheme} {
		l = append(l, [3]int{n, 1, api.Stack})
	}
	for seat := range 4 {
		l = append(l, [3]int{land, seat, api.Library}, [3]int{land, seat, api.Library}, [3]int{land, seat, api.Library})
	}
	return board(t, []int{0, 0, 1, 1}, l...)
}

// resolves asks what comes of one entry: how many terms are done, and what the board is then.
func resolves(t *testing.T, b, want *effect.Board, x stack.Entry, terms int) {
	t.Helper()
	s := stack.New(ant, x)
	got, n, ok := s.Resolve(b)
	is(t, "Resolve: ok", ok, true)
	is(t, "Resolve", got, x)
	is(t, "Resolve: terms", n, terms)
	if !b.Same(want) || !want.Same(b) {
		t.Errorf("Resolve of %v: the board isn't what it is to be", x)
	}
	stands(t, s, ant)
}

// get is an object that there should be.
func get(t *testing.T, b *effect.Board, id int) api.Obj {
	t.Helper()
	o, e := b.Get(id)
	if e != api.OK {
		t.Fatalf("Get(%d) = %d", id, e)
	}
	return o
}

// hurt lets an object have so many hurts.
func hurt(t *testing.T, b *effect.Board, id, n int) {
	t.Helper()
	o := get(t, b, id)
	o.Hurt = n
	if e := b.Set(o); e != api.OK {
		t.Fatal("Set:", e)
	}
}

// are asks what stands in a seat's zone.
func are(t *testing.T, b *effect.Board, seat, zone int, want ...int) {
	t.Helper()
	if got := b.Store.In(seat, zone); !slices.Equal(got, want) {
		t.Errorf("In(%d, %d) = %v; want %v", seat, zone, got, want)
	}
}

// The chapter's example.
func TestSpellHurts(t *testing.T) {
	b := board(t, []int{0, 1}, [3]int{bolt, 0, api.Stack}, [3]int{bear, 1, api.Field})
	s := stack.New(stack.Entry{Obj: 1, At: 2})
	x, n, ok := s.Resolve(b)
	is(t, "Resolve: ok", ok, true)
	is(t, "Resolve", x, stack.Entry{Obj: 1, At: 2})
	is(t, "Resolve: terms", n, 1)
	is(t, "the Creature", get(t, b, 2), api.Obj{Id: 2, Card: bear, Owner: 1, Zone: api.Field, Sick: true, Hurt: 2})
	is(t, "the Spell", get(t, b, 1), api.Obj{Id: 1, Card: bolt, Zone: api.Grave})
	are(t, b, 0, api.Grave, 1)
	are(t, b, 0, api.Stack)
	stands(t, s)
}

// A Spell whose Creature has gone does nothing, and is in the Grave all the same.
func TestSpellTooLate(t *testing.T) {
	for _, zone := range zones {
		b := giants(t)
		b.Move(3, zone, false)
		want, terms := b.Copy(), 0
		if zone == api.Field {
			hurt(t, want, 3, 2)
			terms = 1
		}
		want.Move(9, api.Grave, false)
		resolves(t, b, want, stack.Entry{Seat: 1, Obj: 9, At: 3}, terms)
	}
}

// Only the aimed terms need what they are aimed at.
func TestSpellPartly(t *testing.T) {
	for at, terms := range map[int]int{0: 2, 1: 2, 2: 2, 3: 3, 4: 3, 5: 2, 13: 2, 99: 2, -1: 2} {
		b := giants(t)
		want := b.Copy()
		if terms == 3 {
			want.Move(at, api.Grave, false)
		}
		want.Draw(1, 2)
		want.Gain(0, 3)
		want.Move(10, api.Grave, false)
		resolves(t, b, want, stack.Entry{Seat: 1, Obj: 10, At: at}, terms)
	}
}

// First the terms, then the Grave: there the Spell lies on what it has killed.
func TestSpellOnTopOfGrave(t *testing.T) {
	b := board(t, []int{0, 1}, [3]int{doom, 0, api.Stack}, [3]int{bear, 0, api.Field}, [3]int{land, 0, api.Grave})
	// The seat isn't the owner: its terms are the seat's, the Grave is the owner's.
	_, n, ok := stack.New(stack.Entry{Seat: 1, Obj: 1, At: 2}).Resolve(b)
	is(t, "Resolve: ok", ok, true)
	is(t, "Resolve: terms", n, 3)
	are(t, b, 0, api.Grave, 1, 2, 3)
	are(t, b, 1, api.Grave)
	is(t, "Life(0)", b.Life(0), 20)
	is(t, "Life(1)", b.Life(1), 23)
	is(t, "Dry(0)", b.Dry(0), false)
	is(t, "Dry(1)", b.Dry(1), true)
}

// A Side is a team's number, not an object's.
func TestSpellAtSide(t *testing.T) {
	b := giants(t)
	want := b.Copy()
	want.Gain(1, -4)
	want.Move(11, api.Grave, false)
	resolves(t, b, want, stack.Entry{Seat: 0, Obj: 11, At: 1}, 2)
	b, want = giants(t), giants(t)
	want.Gain(1, -1)
	want.Move(11, api.Grave, false)
	resolves(t, b, want, stack.Entry{Seat: 0, Obj: 11, At: 0}, 1)
	b, want = giants(t), giants(t)
	want.Gain(0, -4)
	want.Move(11, api.Grave, false)
	resolves(t, b, want, stack.Entry{Seat: 3, Obj: 11, At: 0}, 2)
}

// Creatures and Lands go to the Field, on top, of their owner, as if they had just come; no term is done.
func TestToTheField(t *testing.T) {
	for id, sick := range map[int]bool{5: false, 6: false, 7: true, 8: true} {
		for _, x := range []stack.Entry{{Seat: 1, Obj: id}, {Seat: 2, Obj: id, At: 3}, {Seat: 9, Obj: id, At: 99}} {
			b := giants(t)
			o := get(t, b, id)
			b.Set(api.Obj{Id: id, Card: o.Card, Owner: o.Owner, Zone: o.Zone, Tapped: true, Hurt: 3, Count: 1, Attacks: true})
			want := b.Copy()
			want.Move(id, api.Field, false)
			resolves(t, b, want, x, 0)
			is(t, "what came", get(t, b, id), api.Obj{Id: id, Card: o.Card, Owner: 1, Zone: api.Field, Sick: sick})
			are(t, b, 0, api.Field, id, 1, 2, 3, 4)
		}
	}
}

// A trigger's terms are done wherever the object is, and it stays there.
func TestTriggerAnywhere(t *testing.T) {
	for _, zone := range zones {
		b := giants(t)
		b.Move(7, zone, true) // under the others: the draw isn't of itself
		want := b.Copy()
		want.Gain(1, -2)
		want.Draw(1, 1)
		resolves(t, b, want, stack.Entry{Seat: 1, Obj: 7, Trig: true}, 2)
		is(t, "the zone", get(t, b, 7).Zone, zone)
	}
}

// A trigger is of whatever card, also of one that is a Spell or a scheme; of one without terms none is done.
func TestTriggerOfAnyCard(t *testing.T) {
	for id, terms := range map[int]int{1: 0, 5: 0, 6: 1, 7: 2, 8: 1, 9: 1, 10: 3, 11: 1, 12: 2} {
		b := giants(t)
		zone := get(t, b, id).Zone
		want := b.Copy()
		is(t, "All", want.All(0, 3, table()[get(t, b, id).Card].Terms...), terms)
		resolves(t, b, want, stack.Entry{Seat: 0, Obj: id, At: 3, Trig: true}, terms)
		is(t, "the zone", get(t, b, id).Zone, zone)
	}
	// Aimed at a Creature of the seat's own team, though the object is another team's.
	b := giants(t)
	want := b.Copy()
	want.Gain(1, 1)
	o := get(t, want, 4)
	o.Count = 2
	want.Set(o)
	resolves(t, b, want, stack.Entry{Seat: 2, Obj: 8, At: 4, Trig: true}, 2)
}

// Of an object that is elsewhere nothing is done: it stays where it is.
func TestElsewhere(t *testing.T) {
	for id := 5; id <= 12; id++ {
		for _, zone := range zones {
			if zone == api.Stack {
				continue
			}
			b := giants(t)
			b.Move(id, zone, true)
			for at := range 5 {
				resolves(t, b, b.Copy(), stack.Entry{Seat: 1, Obj: id, At: at}, 0)
			}
			is(t, "the zone", get(t, b, id).Zone, zone)
		}
	}
}

// Nothing is done of an object that there isn't, and no terms for a seat that there isn't; the entry is off.
func TestNoSuch(t *testing.T) {
	for _, n := range []int{-1, 0, 25, 26, 1 << 32, -1 << 63, 1<<63 - 1} {
		for _, trig := range []bool{false, true} {
			b := giants(t)
			resolves(t, b, b.Copy(), stack.Entry{Seat: 1, Obj: n, At: 3, Trig: trig}, 0)
		}
	}
	for _, seat := range []int{-1, 4, 5, 1 << 32, -1 << 63, 1<<63 - 1} {
		b := giants(t)
		resolves(t, b, b.Copy(), stack.Entry{Seat: seat, Obj: 10, At: 3, Trig: true}, 0)
		want := b.Copy()
		want.Move(10, api.Grave, false)
		resolves(t, b, want, stack.Entry{Seat: seat, Obj: 10, At: 3}, 0)
	}
}

// By the words of the chapter: what an entry does on a board, and how many terms.
func done(b *effect.Board, x stack.Entry) int {
	o, e := b.Get(x.Obj)
	if e != api.OK || !x.Trig && o.Zone != api.Stack {
		return 0
	}
	c := table()[o.Card]
	if !x.Trig && (c.Kind == api.Creature || c.Kind == api.Land) {
		b.Move(x.Obj, api.Field, false)
		return 0
	}
	n := 0
	for _, y := range c.Terms {
		at := x.At
		if y.On == api.Self {
			at = 0
		}
		if b.Do(x.Seat, y, at) {
			n++
		}
	}
	if !x.Trig {
		b.Move(x.Obj, api.Grave, false)
	}
	return n
}

// All entries of all seats, at all that there is, with the objects in each zone.
func TestAllEntries(t *testing.T) {
	for id := range 15 {
		for _, zone := range zones {
			was := giants(t)
			was.Move(id, zone, false)
			for seat := -1; seat <= 4; seat++ {
				for at := -1; at <= 8; at++ {
					for _, trig := range []bool{false, true} {
						x := stack.Entry{Seat: seat, Obj: id, At: at, Trig: trig}
						b, want := was.Copy(), was.Copy()
						resolves(t, b, want, x, done(want, x))
					}
				}
			}
		}
	}
}

// One by one, from the top on: what one does, the next one finds done.
func TestOneByOne(t *testing.T) {
	b := giants(t)
	l := []stack.Entry{{Seat: 1, Obj: 9, At: 6}, {Seat: 1, Obj: 10, At: 3}, {Seat: 1, Obj: 6}, {Seat: 2, Obj: 8, At: 3, Trig: true}, {Seat: 1, Obj: 9, At: 3, Trig: true}}
	s := stack.New(l...)
	for i, terms := range []int{1, 2, 0, 3, 1} {
		x, n, ok := s.Resolve(b)
		is(t, "Resolve: ok", ok, true)
		is(t, "Resolve", x, l[4-i])
		is(t, "Resolve: terms", n, terms)
		stands(t, s, l[:4-i]...)
	}
	is(t, "hurt by its trigger", get(t, b, 6).Hurt, 2)
	are(t, b, 0, api.Field, 6, 1, 2, 4)
	are(t, b, 1, api.Grave, 9, 10)
	are(t, b, 2, api.Grave, 3)
	was := b.Copy()
	x, n, ok := s.Resolve(b)
	is(t, "Resolve of none: ok", ok, false)
	is(t, "Resolve of none", x, stack.Entry{})
	is(t, "Resolve of none: terms", n, 0)
	is(t, "the board is what it was", b.Same(was), true)
}

// One object may wait as several entries: it is done once, and its triggers each time.
func TestOneObjectTwice(t *testing.T) {
	b := giants(t)
	x, y := stack.Entry{Seat: 1, Obj: 11, At: 1}, stack.Entry{Seat: 1, Obj: 11, At: 1, Trig: true}
	s := stack.New(y, x, x, y)
	for i, terms := range []int{2, 2, 0, 2} {
		_, n, ok := s.Resolve(b)
		if !ok || n != terms {
			t.Errorf("%d: %d, %t; want %d", i, n, ok, terms)
		}
	}
	is(t, "Life(1)", b.Life(1), 8)
	are(t, b, 1, api.Grave, 11)
}

// Without a board nothing is off.
func TestNoBoard(t *testing.T) {
	s := stack.New(ant, bee)
	for range 2 {
		x, n, ok := s.Resolve(nil)
		is(t, "Resolve(nil): ok", ok, false)
		is(t, "Resolve(nil)", x, stack.Entry{})
		is(t, "Resolve(nil): terms", n, 0)
		stands(t, s, ant, bee)
	}
	_, _, ok := stack.New().Resolve(nil)
	is(t, "Resolve(nil) of none: ok", ok, false)
}

// Boards that have nothing: the entries are off, one by one, and nothing is done.
func TestOddBoards(t *testing.T) {
	whole := giants(t)
	for _, b := range []*effect.Board{new(effect.Board), {Teams: whole.Teams}, {Store: new(object.Store), Teams: new(team.Teams)}} {
		resolves(t, b, b.Copy(), stack.Entry{Seat: 1, Obj: 10, At: 3}, 0)
		resolves(t, b, b.Copy(), stack.Entry{Seat: 1, Obj: 10, At: 3, Trig: true}, 0)
	}
	// Without teams there are no seats: no term is done, but what is on the Stack comes off it.
	b := &effect.Board{Store: giants(t).Store}
	want := b.Copy()
	want.Move(10, api.Grave, false)
	resolves(t, b, want, stack.Entry{Seat: 1, Obj: 10, At: 3}, 0)
	want.Move(7, api.Field, false)
	resolves(t, b, want, stack.Entry{Seat: 1, Obj: 7}, 0)
}
