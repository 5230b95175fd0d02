package fight_test

import (
	"math"
	"slices"
	"testing"

	"hydra/api"
	"hydra/effect"
	"hydra/fight"
	"hydra/object"
	"hydra/team"
)

// The cards of table, by their places.
const (
	land = iota
	bear
	hare
	hawk
	guard
	leech
	snake
	tower
	ox
	bolt
	scheme
)

func table() []api.Card {
	return []api.Card{
		land:   {Kind: api.Land},
		bear:   {Kind: api.Creature, Power: 2, Tough: 2},
		hare:   {Kind: api.Creature, Power: 1, Tough: 1, Keys: api.Haste},
		hawk:   {Kind: api.Creature, Power: 1, Tough: 3, Keys: api.Flying},
		guard:  {Kind: api.Creature, Power: 1, Tough: 4, Keys: api.Vigil},
		leech:  {Kind: api.Creature, Power: 3, Tough: 3, Keys: api.Link},
		snake:  {Kind: api.Creature, Power: 1, Tough: 1, Keys: api.Toxic},
		tower:  {Kind: api.Creature, Power: 0, Tough: 5, Keys: api.Link | api.Toxic},
		ox:     {Kind: api.Creature, Power: 7, Tough: 6, When: api.Attacks, Terms: []api.Term{{Op: api.Heal, N: 1}}},
		bolt:   {Kind: api.Spell, Cost: 1, Terms: []api.Term{{Op: api.Hurt, N: 2, On: api.Any}}},
		scheme: {Kind: api.Scheme, Terms: []api.Term{{Op: api.Drain, N: 4}}},
	}
}

var zones = []int{api.Library, api.InHand, api.Field, api.Stack, api.Grave, api.Exile, api.Command}

// sides is seats of such teams.
func sides(l ...int) []int { return l }

// board is a board of such seats, each team of life 20, with objects: of each its card, owner and zone. Nobody is sick.
func board(t *testing.T, sides []int, l ...[3]int) *effect.Board {
	t.Helper()
	s, e := object.New(table(), len(sides))
	if e != api.OK {
		t.Fatal("object.New:", e)
	}
	x, e := team.New(sides, slices.Repeat([]int{20}, slices.Max(sides)+1))
	if e != api.OK {
		t.Fatal("team.New:", e)
	}
	b, e := effect.New(s, x)
	if e != api.OK {
		t.Fatal("effect.New:", e)
	}
	for _, x := range l {
		id, e := b.Add(x[0], x[1], x[2])
		if e != api.OK {
			t.Fatalf("Add(%v): %d", x, e)
		}
		set(t, b, func(o *api.Obj) { o.Sick = false }, id)
	}
	return b
}

// field is two heads against two, with objects on the field: of each its card and owner.
func field(t *testing.T, l ...[2]int) *effect.Board {
	t.Helper()
	var all [][3]int
	for _, x := range l {
		all = append(all, [3]int{x[0], x[1], api.Field})
	}
	return board(t, sides(0, 0, 1, 1), all...)
}

// set changes what objects are, whatever their zone.
func set(t *testing.T, b *effect.Board, change func(o *api.Obj), ids ...int) {
	t.Helper()
	for _, id := range ids {
		o := get(t, b, id)
		change(&o)
		if e := b.Set(o); e != api.OK {
			t.Fatalf("Set(%v): %d", o, e)
		}
	}
}

func get(t *testing.T, b *effect.Board, id int) api.Obj {
	t.Helper()
	o, e := b.Get(id)
	if e != api.OK {
		t.Fatalf("Get(%d): %d", id, e)
	}
	return o
}

func is[T comparable](t *testing.T, what string, got, want T) {
	t.Helper()
	if got != want {
		t.Errorf("%s = %v; want %v", what, got, want)
	}
}

// are asks what a list is.
func are[T comparable](t *testing.T, what string, got []T, want ...T) {
	t.Helper()
	if !slices.Equal(got, want) {
		t.Errorf("%s = %v; want %v", what, got, want)
	}
}

// attack lets Creatures attack, each for its owner and its team.
func attack(t *testing.T, b *effect.Board, ids ...int) {
	t.Helper()
	for _, id := range ids {
		seat := get(t, b, id).Owner
		is(t, "Attack", fight.Attack(b, b.Of(seat), seat, id), api.OK)
	}
}

// block lets a Creature block for its owner another one, in the turn of that one's team.
func block(t *testing.T, b *effect.Board, id, at int) {
	t.Helper()
	is(t, "Block", fight.Block(b, b.Of(get(t, b, at).Owner), get(t, b, id).Owner, id, at), api.OK)
}

// attackers is all that Attackers tells.
func attackers(b *effect.Board, team int) []int { return slices.Collect(fight.Attackers(b, team)) }

// odd is numbers that are out of all ranges, or nearly so.
func odd() []int { return []int{math.MinInt, -7, -1, 64, 1 << 32, math.MaxInt} }

// Who attacks does so from then on, and is tapped; nothing else changes.
func TestAttack(t *testing.T) {
	for _, n := range []int{bear, hare, hawk, leech, snake, tower, ox} {
		for seat := range 4 {
			b := field(t, [2]int{n, seat}, [2]int{n, seat}, [2]int{n, 3 - seat})
			want := b.Copy()
			set(t, want, func(o *api.Obj) { o.Attacks, o.Tapped = true, true }, 2)
			is(t, "Attack", fight.Attack(b, seat/2, seat, 2), api.OK)
			is(t, "the board is what it is to be", b.Same(want), true)
		}
	}
}

// With Vigil it isn't tapped.
func TestAttackWithVigil(t *testing.T) {
	b := field(t, [2]int{guard, 1})
	want := b.Copy()
	set(t, want, func(o *api.Obj) { o.Attacks = true }, 1)
	is(t, "Attack", fight.Attack(b, 0, 1, 1), api.OK)
	is(t, "the board is what it is to be", b.Same(want), true)
}

// What else a Creature has neither keeps it from attacking, nor goes by that.
func TestAttackOfOneThatHasMuch(t *testing.T) {
	b := field(t, [2]int{bear, 0})
	set(t, b, func(o *api.Obj) { o.Hurt, o.Count, o.Boost, o.Block = 5, -3, 2, 1 }, 1)
	want := b.Copy()
	set(t, want, func(o *api.Obj) { o.Attacks, o.Tapped = true, true }, 1)
	is(t, "Attack", fight.Attack(b, 0, 0, 1), api.OK)
	is(t, "the board is what it is to be", b.Same(want), true)
}

// As a Creature comes it is sick, but with Haste.
func TestAttackOfOneThatCame(t *testing.T) {
	b := field(t, [2]int{bear, 0}, [2]int{hare, 0})
	for id := 1; id <= 2; id++ {
		b.Move(id, api.InHand, false)
		b.Move(id, api.Field, false)
	}
	is(t, "Attack", fight.Attack(b, 0, 0, 1), api.ErrSick)
	is(t, "Attack", fight.Attack(b, 0, 0, 2), api.OK)
}

// Who blocks does so from then on; it isn't tapped, and nothing else changes.
func TestBlock(t *testing.T) {
	for _, n := range []int{bear, hare, hawk, guard, leech, snake, tower, ox} {
		for seat := range 4 {
			b := field(t, [2]int{bear, (seat + 2) % 4}, [2]int{n, seat}, [2]int{n, seat}, [2]int{n, seat ^ 1})
			attack(t, b, 1)
			want := b.Copy()
			set(t, want, func(o *api.Obj) { o.Block = 1 }, 3)
			is(t, "Block", fight.Block(b, 1-seat/2, seat, 3, 1), api.OK)
			is(t, "the board is what it is to be", b.Same(want), true)
			set(t, want, func(o *api.Obj) { o.Block = 1 }, 4)
			is(t, "Block of a mate", fight.Block(b, 1-seat/2, seat^1, 4, 1), api.OK)
			is(t, "the board is what it is to be", b.Same(want), true)
		}
	}
}

// One that is sick blocks; and one that is to die.
func TestBlockOfOneThatHasMuch(t *testing.T) {
	b := field(t, [2]int{bear, 0}, [2]int{bear, 3})
	attack(t, b, 1)
	set(t, b, func(o *api.Obj) { o.Sick, o.Hurt, o.Count, o.Boost, o.Attacks = true, 5, -9, 2, true }, 2)
	want := b.Copy()
	set(t, want, func(o *api.Obj) { o.Block = 1 }, 2)
	is(t, "Block", fight.Block(b, 0, 3, 2, 1), api.OK)
	is(t, "the board is what it is to be", b.Same(want), true)
}

// What flies is blocked by what flies.
func TestFlying(t *testing.T) {
	for _, c := range []struct {
		at, by int
		want   api.Errno
	}{{bear, bear, api.OK}, {bear, hawk, api.OK}, {hawk, hawk, api.OK}, {hawk, bear, api.ErrTarget}, {hawk, tower, api.ErrTarget}, {hawk, guard, api.ErrTarget}} {
		b := field(t, [2]int{c.at, 0}, [2]int{c.by, 2})
		attack(t, b, 1)
		was := b.Copy()
		is(t, "Block", fight.Block(b, 0, 2, 2, 1), c.want)
		is(t, "the board is another one", !b.Same(was), c.want == api.OK)
	}
}

// What three teams are: each of the others may block, and is struck, if it is the next one.
func TestThreeTeams(t *testing.T) {
	b := board(t, sides(2, 0, 1), [3]int{bear, 0, api.Field}, [3]int{bear, 1, api.Field}, [3]int{bear, 2, api.Field}, [3]int{hawk, 0, api.Field})
	attack(t, b, 1, 4)
	block(t, b, 2, 1)
	block(t, b, 3, 1)
	are(t, "Plan", fight.Plan(b, 2), fight.Hit{From: 1, To: 2, N: 2}, fight.Hit{From: 2, To: 1, N: 2}, fight.Hit{From: 3, To: 1, N: 2}, fight.Hit{From: 4, To: -1, N: 1})
	b.Lose(0)
	are(t, "Plan", fight.Plan(b, 2)[3:], fight.Hit{From: 4, To: -2, N: 1})
	b.Lose(2)
	are(t, "Plan of a team that has lost", fight.Plan(b, 2)[3:], fight.Hit{From: 4, To: -2, N: 1})
}

// In the order of the Field, of that team alone, from the top on.
func TestAttackers(t *testing.T) {
	b := field(t, [2]int{bear, 0}, [2]int{bear, 1}, [2]int{bear, 2}, [2]int{bear, 3}, [2]int{bear, 0})
	are(t, "Attackers", attackers(b, 0))
	attack(t, b, 5, 2, 1, 4)
	are(t, "Attackers", attackers(b, 0), 1, 2, 5)
	are(t, "Attackers", attackers(b, 1), 4)
	b.Lay(0, api.Field, []int{4, 5, 3, 2, 1})
	are(t, "Attackers", attackers(b, 0), 5, 2, 1)
	b.Move(2, api.Grave, false)
	are(t, "Attackers", attackers(b, 0), 5, 1)
	b.Move(2, api.Field, false)
	are(t, "Attackers, of one that has come again", attackers(b, 0), 5, 1)
	b.Lose(0)
	are(t, "Attackers of a team that has lost", attackers(b, 0), 5, 1)
}

// What isn't a Creature on the Field attacks nobody, and blocks nobody, whatever the board was told.
func TestNoCreatures(t *testing.T) {
	var l [][3]int
	for n := range table() {
		for _, zone := range zones {
			l = append(l, [3]int{n, n % 2, zone})
		}
	}
	b := board(t, sides(0, 1), l...)
	for o := range b.Store.All() {
		set(t, b, func(o *api.Obj) { o.Attacks, o.Block = true, 3 }, o.Id)
	}
	var want [2][]int
	for i, x := range l {
		if x[2] == api.Field && x[0] != land && x[0] != bolt && x[0] != scheme {
			want[x[1]] = append(want[x[1]], i+1)
		}
	}
	are(t, "Attackers", attackers(b, 0), want[0]...)
	are(t, "Attackers", attackers(b, 1), want[1]...)
	are(t, "Blockers", fight.Blockers(b, 3), slices.Sorted(slices.Values(slices.Concat(want[0], want[1])))...)
}

// It ends as soon as no more is asked for, and tells them anew each time, as they are when it begins.
func TestAttackersOneByOne(t *testing.T) {
	b := field(t, [2]int{bear, 0}, [2]int{bear, 1}, [2]int{bear, 0})
	told := fight.Attackers(b, 0)
	attack(t, b, 1, 2, 3)
	for most := range 5 {
		var l []int
		for id := range told {
			if len(l) == most {
				break
			}
			l = append(l, id)
		}
		are(t, "Attackers", l, []int{1, 2, 3}[:min(most, 3)]...)
	}
	var l []int
	for id := range told {
		l = append(l, id)
		b.Move(1, api.Grave, false)
		b.Move(3, api.Grave, false)
	}
	are(t, "Attackers, of whom two go", l, 1, 2, 3)
	are(t, "Attackers", slices.Collect(told), 2)
}

// In the order of the Field, of whatever owner.
func TestBlockers(t *testing.T) {
	b := field(t, [2]int{bear, 2}, [2]int{ox, 0}, [2]int{bear, 3}, [2]int{ox, 1}, [2]int{bear, 2}, [2]int{bear, 3})
	attack(t, b, 2, 4)
	block(t, b, 5, 2)
	block(t, b, 3, 4)
	block(t, b, 1, 2)
	are(t, "Blockers", fight.Blockers(b, 2), 1, 5)
	are(t, "Blockers", fight.Blockers(b, 4), 3)
	b.Lay(0, api.Field, []int{6, 5, 4, 3, 2, 1})
	are(t, "Blockers", fight.Blockers(b, 2), 5, 1)
	for _, id := range append(odd(), 0, 1, 3, 5, 6, 7) {
		are(t, "Blockers of what nobody blocks", fight.Blockers(b, id))
	}
	b.Move(5, api.InHand, false)
	are(t, "Blockers", fight.Blockers(b, 2), 1)
	b.Move(5, api.Field, false)
	are(t, "Blockers, of one that has come again", fight.Blockers(b, 2), 1)
}

// A list that was answered is one's own.
func TestOwnMemory(t *testing.T) {
	b := field(t, [2]int{ox, 0}, [2]int{bear, 2}, [2]int{bear, 3})
	attack(t, b, 1)
	block(t, b, 2, 1)
	block(t, b, 3, 1)
	l, plan := fight.Blockers(b, 1), fight.Plan(b, 0)
	l[0], plan[0] = 9, fight.Hit{}
	are(t, "Blockers", fight.Blockers(b, 1), 2, 3)
	is(t, "the first hit", fight.Plan(b, 0)[0], fight.Hit{From: 1, To: 2, N: 2})
}
