package effect_test

import (
	"math"
	"slices"
	"testing"

	"hydra/api"
	"hydra/effect"
	"hydra/object"
	"hydra/team"
)

// The cards of table, by their places.
const (
	land = iota
	bear
	wall
	spell
	scheme
)

func table() []api.Card {
	return []api.Card{
		land:   {Kind: api.Land},
		bear:   {Kind: api.Creature, Cost: 2, Power: 2, Tough: 2},
		wall:   {Kind: api.Creature, Tough: 5, Keys: api.Haste | api.Flying, When: api.Dies, Terms: []api.Term{{Op: api.Draw, N: 1}}},
		spell:  {Kind: api.Spell, Cost: 1, Terms: []api.Term{{Op: api.Hurt, N: 2, On: api.Any}}},
		scheme: {Kind: api.Scheme, Terms: []api.Term{{Op: api.Draw, N: 1}}},
	}
}

var (
	zones  = []int{api.Library, api.InHand, api.Field, api.Stack, api.Grave, api.Exile, api.Command}
	wrongs = []int{-1, -2, 7, 100, 256, 1 << 32, math.MaxInt, math.MinInt}
)

// store is a store of some seats with objects: of each its card, owner and zone.
func store(t *testing.T, seats int, l ...[3]int) *object.Store {
	t.Helper()
	s, e := object.New(table(), seats)
	if e != api.OK {
		t.Fatal("New:", e)
	}
	for _, x := range l {
		if id, e := s.Add(x[0], x[1], x[2]); id != s.Len() || e != api.OK {
			t.Fatalf("Add(%v) = %d, %d", x, id, e)
		}
	}
	return s
}

// teams is teams of seats, each of life 20.
func teams(t *testing.T, sides ...int) *team.Teams {
	t.Helper()
	x, e := team.New(sides, slices.Repeat([]int{20}, slices.Max(sides)+1))
	if e != api.OK {
		t.Fatal("New:", e)
	}
	return x
}

// board is a board of seats of such teams, with objects.
func board(t *testing.T, sides []int, l ...[3]int) *effect.Board {
	t.Helper()
	b, e := effect.New(store(t, len(sides), l...), teams(t, sides...))
	if e != api.OK || b == nil {
		t.Fatalf("New = %v, %d", b, e)
	}
	return b
}

// giants is two heads against two: Creatures 1 and 2 of seats 0 and 2 on the Field, a Land and a Creature of haste, 3 and 4, of seats 1 and 3; cards in each other zone.
func giants(t *testing.T) *effect.Board {
	t.Helper()
	return board(t, []int{0, 0, 1, 1},
		[3]int{bear, 0, api.Field}, [3]int{bear, 2, api.Field}, [3]int{land, 1, api.Field}, [3]int{wall, 3, api.Field},
		[3]int{bear, 0, api.Library}, [3]int{land, 0, api.Library}, [3]int{spell, 0, api.InHand},
		[3]int{bear, 2, api.Grave}, [3]int{bear, 2, api.InHand}, [3]int{bear, 1, api.Stack},
		[3]int{bear, 1, api.Exile}, [3]int{scheme, 0, api.Command}, [3]int{land, 3, api.Library})
}

// get is an object that there should be.
func get(t *testing.T, b *effect.Board, id int) api.Obj {
	t.Helper()
	o, e := b.Get(id)
	if e != api.OK {
		t.Fatalf("Get(%d) = %d", id, e)
	}
	return o
}

// set changes an object.
func set(t *testing.T, b *effect.Board, id int, change func(o *api.Obj)) {
	t.Helper()
	o := get(t, b, id)
	change(&o)
	if e := b.Set(o); e != api.OK {
		t.Fatalf("Set(%v) = %d", o, e)
	}
}

// does asks whether a term is done, and lets the board be what it is to be.
func does(t *testing.T, b, want *effect.Board, seat int, x api.Term, at int) {
	t.Helper()
	if !b.Do(seat, x, at) {
		t.Errorf("Do(%d, %v, %d) = false", seat, x, at)
	}
	if !b.Same(want) || !want.Same(b) {
		t.Errorf("Do(%d, %v, %d): the board isn't what it is to be", seat, x, at)
	}
}

// doesNot asks whether a term isn't done, and leaves the board as it is.
func doesNot(t *testing.T, b *effect.Board, seat int, x api.Term, at int) {
	t.Helper()
	was := b.Copy()
	if b.Do(seat, x, at) {
		t.Errorf("Do(%d, %v, %d) = true", seat, x, at)
	}
	if !b.Same(was) || !was.Same(b) {
		t.Errorf("Do(%d, %v, %d): the board has changed", seat, x, at)
	}
}

func is[T comparable](t *testing.T, what string, got, want T) {
	t.Helper()
	if got != want {
		t.Errorf("%s = %v; want %v", what, got, want)
	}
}

// are asks what stands in a seat's zone.
func are(t *testing.T, b *effect.Board, seat, zone int, want ...int) {
	t.Helper()
	if got := b.Store.In(seat, zone); !slices.Equal(got, want) {
		t.Errorf("In(%d, %d) = %v; want %v", seat, zone, got, want)
	}
}

func TestHurtCreature(t *testing.T) {
	for _, n := range []int{0, 1, 2, 7, 20} {
		for _, on := range []int{api.Any, api.Foe} {
			b := giants(t)
			want := b.Copy()
			set(t, want, 2, func(o *api.Obj) { o.Hurt = n })
			does(t, b, want, 1, api.Term{Op: api.Hurt, N: n, On: on}, 2)
			// It dies by layer 14 alone, and is hurt on top of what it is.
			set(t, want, 2, func(o *api.Obj) { o.Hurt = n + 3 })
			does(t, b, want, 0, api.Term{Op: api.Hurt, N: 3, On: on}, 2)
		}
	}
	b := giants(t)
	set(t, b, 1, func(o *api.Obj) { o.Hurt, o.Tapped, o.Count, o.Boost, o.Attacks, o.Block = 990, true, 3, -4, true, 2 })
	want := b.Copy()
	set(t, want, 1, func(o *api.Obj) { o.Hurt = 999 })
	does(t, b, want, 1, api.Term{Op: api.Hurt, N: 20, On: api.Any}, 1)
}

func TestHurtSide(t *testing.T) {
	for _, n := range []int{0, 1, 19, 20} {
		b := giants(t)
		for seat, foe := range []int{1, 1, 0, 0} {
			want := b.Copy()
			want.Gain(foe, -n)
			does(t, b, want, seat, api.Term{Op: api.Hurt, N: n, On: api.Side}, foe)
		}
		is(t, "Life(0)", b.Life(0), 20-2*n)
		is(t, "Life(1)", b.Life(1), 20-2*n)
		// A life of 0 or less is no loss by itself: layer 14 tells that.
		is(t, "Lost", b.Lost(0) || b.Lost(1), false)
	}
	b := giants(t)
	b.Gain(1, -999)
	b.Gain(1, -15)
	want := b.Copy()
	want.Gain(1, -5)
	does(t, b, want, 0, api.Term{Op: api.Hurt, N: 20, On: api.Side}, 1)
	is(t, "Life(1)", b.Life(1), -999)
}

// Teams have numbers, as objects have: what is hurt is told by the word alone.
func TestHurtWhich(t *testing.T) {
	b := giants(t)
	b.Do(0, api.Term{Op: api.Hurt, N: 1, On: api.Side}, 1)
	b.Do(2, api.Term{Op: api.Hurt, N: 2, On: api.Foe}, 1)
	is(t, "Life(0)", b.Life(0), 20)
	is(t, "Life(1)", b.Life(1), 19)
	is(t, "Hurt", get(t, b, 1).Hurt, 2)
}

func TestHeal(t *testing.T) {
	for _, n := range []int{0, 1, 20} {
		for seat, own := range []int{0, 0, 1, 1} {
			b := giants(t)
			want := b.Copy()
			want.Gain(own, n)
			does(t, b, want, seat, api.Term{Op: api.Heal, N: n}, 0)
			is(t, "Life", b.Life(own), 20+n)
		}
	}
	b := giants(t)
	b.Gain(0, 975)
	want := b.Copy()
	want.Gain(0, 4)
	does(t, b, want, 1, api.Term{Op: api.Heal, N: 20}, 0)
	is(t, "Life(0)", b.Life(0), 999)
}

func TestSwellAndGrow(t *testing.T) {
	for _, n := range []int{0, 1, 20} {
		for _, on := range []int{api.Any, api.Own} {
			b := giants(t)
			want := b.Copy()
			set(t, want, 1, func(o *api.Obj) { o.Boost = n })
			does(t, b, want, 1, api.Term{Op: api.Swell, N: n, On: on}, 1)
			set(t, want, 1, func(o *api.Obj) { o.Count = n })
			does(t, b, want, 1, api.Term{Op: api.Grow, N: n, On: on}, 1)
			set(t, want, 1, func(o *api.Obj) { o.Boost, o.Count = n+2, n+3 })
			b.Do(0, api.Term{Op: api.Swell, N: 2, On: on}, 1)
			does(t, b, want, 0, api.Term{Op: api.Grow, N: 3, On: on}, 1)
		}
	}
	b := giants(t)
	set(t, b, 4, func(o *api.Obj) { o.Boost, o.Count = 990, 985 })
	want := b.Copy()
	set(t, want, 4, func(o *api.Obj) { o.Boost, o.Count = 999, 999 })
	b.Do(3, api.Term{Op: api.Swell, N: 20, On: api.Own}, 4)
	does(t, b, want, 2, api.Term{Op: api.Grow, N: 15, On: api.Own}, 4)
}

// Whoever kills a Creature, or sends it back: it goes to its owner's zone, on top, as if it had just come.
func TestKillAndBack(t *testing.T) {
	for op, zone := range map[int]int{api.Kill: api.Grave, api.Back: api.InHand} {
		for seat, on := range []int{api.Foe, api.Any, api.Any, api.Any} {
			b := giants(t)
			set(t, b, 2, func(o *api.Obj) { o.Hurt, o.Tapped, o.Count, o.Boost, o.Attacks, o.Block = 1, true, 3, 4, true, 1 })
			want := b.Copy()
			want.Move(2, zone, false)
			does(t, b, want, seat, api.Term{Op: op, On: on}, 2)
			is(t, "what has gone", get(t, b, 2), api.Obj{Id: 2, Card: bear, Owner: 2, Zone: zone})
			are(t, b, 0, api.Field, 1, 3, 4)
			doesNot(t, b, seat, api.Term{Op: op, On: on}, 2)
		}
	}
	b := giants(t)
	b.Do(0, api.Term{Op: api.Kill, On: api.Foe}, 2)
	b.Do(1, api.Term{Op: api.Back, On: api.Foe}, 4)
	b.Do(2, api.Term{Op: api.Back, On: api.Any}, 1)
	are(t, b, 2, api.Grave, 2, 8)
	are(t, b, 3, api.InHand, 4)
	are(t, b, 0, api.InHand, 1, 7)
	are(t, b, 0, api.Field, 3)
}

func TestDrain(t *testing.T) {
	for _, n := range []int{0, 1, 20} {
		b := board(t, []int{1, 0, 2, 1})
		want := b.Copy()
		want.Gain(0, -n)
		want.Gain(2, -n)
		does(t, b, want, 3, api.Term{Op: api.Drain, N: n}, 0)
		// One that has lost loses no more; one that has lost itself may drain.
		b.Lose(2)
		want.Lose(2)
		want.Gain(0, -n)
		does(t, b, want, 0, api.Term{Op: api.Drain, N: n}, 0)
		want.Gain(0, -n)
		want.Gain(1, -n)
		does(t, b, want, 2, api.Term{Op: api.Drain, N: n}, 0)
	}
	b := giants(t)
	b.Gain(0, -999)
	b.Gain(0, -12)
	b.Do(2, api.Term{Op: api.Drain, N: 20}, 0)
	is(t, "Life(0)", b.Life(0), -999)
	is(t, "Life(1)", b.Life(1), 20)
	b.Lose(0)
	b.Lose(1)
	want := b.Copy()
	does(t, b, want, 2, api.Term{Op: api.Drain, N: 20}, 0)
}

func TestBind(t *testing.T) {
	for seat, on := range []int{api.Foe, api.Foe, api.Any, api.Any} {
		b := giants(t)
		want := b.Copy()
		set(t, want, 2, func(o *api.Obj) { o.Tapped = true })
		does(t, b, want, seat, api.Term{Op: api.Bind, On: on}, 2)
		// One that is tapped may be aimed at as others may.
		does(t, b, want, seat, api.Term{Op: api.Bind, On: on}, 2)
	}
}
