package check_test

import (
	"slices"
	"testing"

	"hydra/api"
	"hydra/check"
	"hydra/effect"
	"hydra/object"
	"hydra/stack"
	"hydra/team"
)

// The cards of table, by their places.
const (
	land = iota
	bear
	ghost
	banshee
	hare
	sage
	bolt
	scheme
)

func table() []api.Card {
	return []api.Card{
		land:    {Kind: api.Land},
		bear:    {Kind: api.Creature, Cost: 2, Power: 2, Tough: 2},
		ghost:   {Kind: api.Creature, Tough: 1, When: api.Dies, Terms: []api.Term{{Op: api.Drain, N: 2}, {Op: api.Draw, N: 1}}},
		banshee: {Kind: api.Creature, Power: 3, Tough: 4, Keys: api.Haste, When: api.Dies, Terms: []api.Term{{Op: api.Heal, N: 1}}},
		hare:    {Kind: api.Creature, Power: 1, Tough: 1, When: api.Attacks, Terms: []api.Term{{Op: api.Heal, N: 1}}},
		sage:    {Kind: api.Creature, Tough: 2, When: api.Enters, Terms: []api.Term{{Op: api.Draw, N: 1}}},
		bolt:    {Kind: api.Spell, Cost: 1, Terms: []api.Term{{Op: api.Hurt, N: 2, On: api.Any}}},
		scheme:  {Kind: api.Scheme, Terms: []api.Term{{Op: api.Drain, N: 4}}},
	}
}

var zones = []int{api.Library, api.InHand, api.Field, api.Stack, api.Grave, api.Exile, api.Command}

// board is a board of seats of such teams, each of life 20, with objects: of each its card, owner and zone.
func board(t *testing.T, sides []int, l ...[3]int) *effect.Board {
	t.Helper()
	s, e := object.New(table(), len(sides))
	if e != api.OK {
		t.Fatal("object.New:", e)
	}
	x, e := team.New(sides, slices.Repeat([]int{20}, slices.Max(sides)+1))
	if e != api.OK {
		t.Fatal("team.New:", e)
	}
	b, e := effect.New(s, x)
	if e != api.OK {
		t.Fatal("effect.New:", e)
	}
	for _, x := range l {
		if _, e := b.Add(x[0], x[1], x[2]); e != api.OK {
			t.Fatalf("Add(%v): %d", x, e)
		}
	}
	return b
}

// giants is two heads against two: 1 to 4 are bears on the Field, of seats 3, 0, 2, 1.
func giants(t *testing.T) *effect.Board {
	t.Helper()
	return board(t, []int{0, 0, 1, 1}, [3]int{bear, 3, api.Field}, [3]int{bear, 0, api.Field}, [3]int{bear, 2, api.Field}, [3]int{bear, 1, api.Field})
}

// set changes what objects are, whatever their zone.
func set(t *testing.T, b *effect.Board, change func(o *api.Obj), ids ...int) {
	t.Helper()
	for _, id := range ids {
		o, e := b.Get(id)
		if e != api.OK {
			t.Fatalf("Get(%d): %d", id, e)
		}
		change(&o)
		if e := b.Set(o); e != api.OK {
			t.Fatalf("Set(%v): %d", o, e)
		}
	}
}

// wound gives objects a hurt of which each of table's Creatures dies.
func wound(t *testing.T, b *effect.Board, ids ...int) {
	t.Helper()
	set(t, b, func(o *api.Obj) { o.Hurt = 9 }, ids...)
}

func is[T comparable](t *testing.T, what string, got, want T) {
	t.Helper()
	if got != want {
		t.Errorf("%s = %v; want %v", what, got, want)
	}
}

// are asks who is in a zone, from the top on.
func are(t *testing.T, b *effect.Board, seat, zone int, want ...int) {
	t.Helper()
	if l := b.Store.In(seat, zone); !slices.Equal(l, want) {
		t.Errorf("in zone %d of seat %d: %v; want %v", zone, seat, l, want)
	}
}

// stands asks whether just these are on a stack, the last one on top.
func stands(t *testing.T, s *stack.Stack, want ...stack.Entry) {
	t.Helper()
	l := slices.Collect(s.All())
	slices.Reverse(l)
	if !slices.Equal(l, want) {
		t.Errorf("the stack, from below: %v; want %v", l, want)
	}
}

// trigger is an entry of a seat's object.
func trigger(seat, id int) stack.Entry { return stack.Entry{Seat: seat, Obj: id, Trig: true} }

// runs does checks, and asks what they tell: who died, and which teams lost. One round does all that is to be done; behind it the board is stable, and nothing more happens.
func runs(t *testing.T, b *effect.Board, s *stack.Stack, active int, dead, lost []int) {
	t.Helper()
	was := b.Copy()
	stable := check.Stable(b)
	told(t, check.Run(b, s, active), check.Report{Dead: dead, Lost: lost, Rounds: 1})
	is(t, "Stable ahead of the checks", stable, false)
	is(t, "nothing has changed", b.Same(was), false)
	settled(t, b, s, active)
}

// rests asks whether a board is stable, so that checks do nothing.
func rests(t *testing.T, b *effect.Board) {
	t.Helper()
	settled(t, b, stack.New(trigger(1, 2)), 0)
}

func settled(t *testing.T, b *effect.Board, s *stack.Stack, active int) {
	t.Helper()
	was, waited := b.Copy(), s.Copy()
	is(t, "Stable", check.Stable(b), true)
	for n := range b.Teams.Len() {
		is(t, "Doomed", check.Doomed(b, n), false)
	}
	told(t, check.Run(b, s, active), check.Report{})
	is(t, "the board is what it was", b.Same(was), true)
	is(t, "the stack is what it was", s.Same(waited), true)
}

func told(t *testing.T, r, want check.Report) {
	t.Helper()
	if !slices.Equal(r.Dead, want.Dead) || !slices.Equal(r.Lost, want.Lost) || r.Rounds != want.Rounds {
		t.Errorf("Run = %v; want %v", r, want)
	}
}

// The chapter's example.
func TestHurtByItsToughness(t *testing.T) {
	b := giants(t)
	b.Do(0, api.Term{Op: api.Hurt, N: 1, On: api.Foe}, 3)
	rests(t, b)
	b.Do(1, api.Term{Op: api.Hurt, N: 1, On: api.Foe}, 3)
	runs(t, b, stack.New(), 0, []int{3}, nil)
	o, e := b.Get(3)
	is(t, "what is dead", o, api.Obj{Id: 3, Card: bear, Owner: 2, Zone: api.Grave})
	is(t, "Get", e, api.OK)
	are(t, b, 0, api.Field, 1, 2, 4)
}

// By its toughness as it is now: by its card, its counters and its boosts.
func TestWhoIsToDie(t *testing.T) {
	for _, c := range []struct {
		hurt, count, boost int
		dies               bool
	}{
		{0, 0, 0, false}, {1, 0, 0, false}, {2, 0, 0, true}, {3, 0, 0, true}, {999, 0, 0, true},
		{0, -1, 0, false}, {0, -2, 0, true}, {0, -3, 0, true}, {0, 0, -1, false}, {0, 0, -2, true}, {0, -1, -1, true},
		{2, 1, 0, false}, {2, 0, 1, false}, {3, 1, 0, true}, {3, 1, 1, false}, {4, 1, 1, true}, {1, 1, -2, true}, {1, -5, 2, false}, {2, -5, 2, true},
		{998, 997, 0, false}, {998, 999, 999, false}, {999, 999, 999, true}, {-1, 0, 0, false}, {-1, -2, 0, true},
	} {
		b := giants(t)
		set(t, b, func(o *api.Obj) { o.Hurt, o.Count, o.Boost = c.hurt, c.count, c.boost }, 2)
		is(t, "Stable", check.Stable(b), !c.dies)
		if c.dies {
			runs(t, b, stack.New(), 0, []int{2}, nil)
			are(t, b, 0, api.Grave, 2)
		} else {
			rests(t, b)
		}
		if t.Failed() {
			t.Fatal(c)
		}
	}
}

// Just Creatures, and just on the Field.
func TestWhoIsNot(t *testing.T) {
	for n := range table() {
		for _, zone := range zones {
			b := board(t, []int{0, 1}, [3]int{n, 1, zone})
			set(t, b, func(o *api.Obj) { o.Hurt, o.Count, o.Boost = 99, -99, -99 }, 1)
			if n != land && n != bolt && n != scheme && zone == api.Field {
				runs(t, b, stack.New(), 0, []int{1}, nil)
				are(t, b, 1, api.Grave, 1)
			} else {
				rests(t, b)
			}
		}
	}
}

// In the order of the Field, all in one round: each on top of its owner's Grave, as if it had just come.
func TestOrderOfTheField(t *testing.T) {
	b := board(t, []int{0, 1}, [3]int{bear, 0, api.Field}, [3]int{land, 0, api.Field}, [3]int{bear, 1, api.Field}, [3]int{bear, 0, api.Field},
		[3]int{bear, 0, api.Field}, [3]int{bear, 1, api.Field}, [3]int{bolt, 0, api.Grave}, [3]int{land, 1, api.Grave})
	b.Lay(0, api.Field, []int{5, 6, 1, 2, 4, 3})
	set(t, b, func(o *api.Obj) { o.Tapped, o.Count, o.Boost, o.Attacks, o.Block = true, 1, 2, true, 3 }, 1, 3, 4, 5, 6)
	wound(t, b, 1, 3, 5, 6)
	want := b.Copy()
	for _, id := range []int{5, 6, 1, 3} {
		want.Move(id, api.Grave, false)
	}
	runs(t, b, stack.New(), 0, []int{5, 6, 1, 3}, nil)
	is(t, "Same", b.Same(want), true)
	are(t, b, 0, api.Field, 2, 4)
	are(t, b, 0, api.Grave, 1, 5, 7)
	are(t, b, 1, api.Grave, 3, 6, 8)
	o, _ := b.Get(5)
	is(t, "what is dead", o, api.Obj{Id: 5, Card: bear, Owner: 0, Zone: api.Grave})
}

// The Dies triggers of those that died fire all together, in the order of layer 13, not in that of the Field.
func TestTriggers(t *testing.T) {
	b := board(t, []int{0, 0, 1, 1}, [3]int{ghost, 3, api.Field}, [3]int{banshee, 0, api.Field}, [3]int{bear, 0, api.Field}, [3]int{ghost, 2, api.Field},
		[3]int{ghost, 1, api.Field}, [3]int{ghost, 0, api.Field}, [3]int{ghost, 3, api.Grave}, [3]int{banshee, 2, api.Field})
	wound(t, b, 1, 2, 3, 4, 5, 6)
	first, own, foes := trigger(2, 99), []stack.Entry{trigger(0, 2), trigger(0, 6), trigger(1, 5)}, []stack.Entry{trigger(2, 4), trigger(3, 1)}
	for active, want := range [][]stack.Entry{slices.Concat(own, foes), slices.Concat(foes, own)} {
		b, s := b.Copy(), stack.New(first)
		runs(t, b, s, active, []int{1, 2, 3, 4, 5, 6}, nil)
		stands(t, s, slices.Concat([]stack.Entry{first}, want)...)
		is(t, "nothing is done yet", b.Life(0)+b.Life(1), 40)
	}
	b.Lay(0, api.Field, []int{8, 6, 5, 4, 3, 2, 1})
	s := stack.New()
	runs(t, b, s, 1, []int{6, 5, 4, 3, 2, 1}, nil)
	stands(t, s, slices.Concat(foes, own)...)
}

// Triggers of other Whens don't fire.
func TestOtherTriggers(t *testing.T) {
	b := board(t, []int{0, 1}, [3]int{hare, 0, api.Field}, [3]int{sage, 1, api.Field}, [3]int{bear, 0, api.Field}, [3]int{ghost, 1, api.Field})
	wound(t, b, 1, 2, 3)
	s := stack.New()
	runs(t, b, s, 0, []int{1, 2, 3}, nil)
	stands(t, s)
}

// Where there is no room for its trigger a Creature dies all the same.
func TestNoRoom(t *testing.T) {
	for there := range 9 {
		b := board(t, []int{0, 1}, [3]int{ghost, 0, api.Field}, [3]int{ghost, 1, api.Field}, [3]int{ghost, 0, api.Field})
		wound(t, b, 1, 2, 3)
		first := slices.Repeat([]stack.Entry{{At: 4}}, there)
		s := stack.New(first...)
		runs(t, b, s, 1, []int{1, 2, 3}, nil)
		order := []stack.Entry{trigger(1, 2), trigger(0, 1), trigger(0, 3)}
		stands(t, s, slices.Concat(first, order[:min(3, 8-there)])...)
		are(t, b, 0, api.Grave, 3, 1)
		are(t, b, 1, api.Grave, 2)
	}
}

// Which team is active is taken as layer 13 takes it.
func TestActive(t *testing.T) {
	for active, order := range map[int][2]int{0: {0, 1}, 1: {1, 0}, 2: {0, 1}, 7: {1, 0}, 1<<63 - 1: {1, 0}, -1: {0, 1}, -1 << 63: {0, 1}} {
		b := board(t, []int{0, 1}, [3]int{ghost, 0, api.Field}, [3]int{ghost, 1, api.Field})
		wound(t, b, 1, 2)
		b.Gain(1, -20)
		s := stack.New()
		runs(t, b, s, active, []int{1, 2}, []int{1})
		stands(t, s, trigger(order[0], order[0]+1), trigger(order[1], order[1]+1))
	}
}

// What is done by the triggers is for later checks: one behind the other, till nothing waits.
func TestChain(t *testing.T) {
	b := board(t, []int{0, 1}, [3]int{ghost, 0, api.Field}, [3]int{bear, 1, api.Library})
	b.Gain(1, -18)
	wound(t, b, 1)
	s := stack.New()
	runs(t, b, s, 0, []int{1}, nil)
	s.Resolve(b)
	// Drained, and nothing to draw: both lose.
	runs(t, b, s, 0, nil, []int{0, 1})
	is(t, "Over", b.Over(), true)
	is(t, "Winner", b.Winner(), -1)
}

// What is told is the caller's own.
func TestOwnMemory(t *testing.T) {
	b := giants(t)
	wound(t, b, 1, 3)
	b.Gain(1, -20)
	s := stack.New()
	r := check.Run(b, s, 0)
	was := b.Copy()
	r.Dead[0], r.Lost[0] = 7, 0
	is(t, "the board is what it was", b.Same(was), true)
	told(t, check.Run(b, s, 0), check.Report{})
	told(t, r, check.Report{Dead: []int{7, 3}, Lost: []int{0}, Rounds: 1})
}
