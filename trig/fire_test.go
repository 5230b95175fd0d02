package trig_test

import (
	"math"
	"slices"
	"testing"

	"hydra/api"
	"hydra/effect"
	"hydra/object"
	"hydra/stack"
	"hydra/team"
	"hydra/trig"
)

// Those whose card's When is that, and no others.
func TestWhen(t *testing.T) {
	b := board(t, []int{0, 1}, [3]int{land, 0, api.Field}, [3]int{bear, 0, api.Field}, [3]int{hare, 0, api.Field}, [3]int{ghost, 0, api.Field},
		[3]int{sage, 0, api.Field}, [3]int{bolt, 0, api.Field}, [3]int{scheme, 0, api.Field})
	ids := []int{1, 2, 3, 4, 5, 6, 7}
	fires(t, b, 0, api.Attacks, ids, trigger(0, 3, 0))
	fires(t, b, 0, api.Dies, ids, trigger(0, 4, 0))
	fires(t, b, 0, api.Enters, ids, trigger(0, 5, 0))
	for _, when := range []int{api.Never, -1, 4, 5, 1 << 32, math.MinInt, math.MaxInt} {
		fires(t, b, 0, when, ids)
	}
	fires(t, b, 0, api.Dies, nil)
	fires(t, b, 0, api.Dies, []int{3, 5})
}

// Wherever the object is; and it stays there.
func TestAnywhere(t *testing.T) {
	for _, zone := range zones {
		fires(t, board(t, []int{0, 1}, [3]int{ghost, 1, zone}), 0, api.Dies, []int{1}, trigger(1, 1, 0))
	}
}

// The seat is the owner, also when it isn't of the active team; the active team only orders them.
func TestOwners(t *testing.T) {
	for seat := range 4 {
		b := board(t, []int{0, 1, 1, 0}, [3]int{bear, 0, api.Field}, [3]int{hare, seat, api.Field})
		for active := range 2 {
			fires(t, b, active, api.Attacks, []int{2}, trigger(seat, 2, 0))
		}
	}
}

// By Any: the first Creature in the order of the Field, whose ever it is; itself, too.
func TestAny(t *testing.T) {
	b := board(t, []int{0, 1}, [3]int{land, 0, api.Field}, [3]int{archer, 0, api.Field}, [3]int{bear, 1, api.Field}, [3]int{bear, 0, api.Field})
	fires(t, b, 0, api.Enters, []int{2}, trigger(0, 2, 2))
	b.Lay(0, api.Field, []int{1, 3, 2, 4})
	fires(t, b, 0, api.Enters, []int{2}, trigger(0, 2, 3))
	b.Lay(0, api.Field, []int{4, 3, 2, 1})
	fires(t, b, 1, api.Enters, []int{2}, trigger(0, 2, 4))
	b.Move(2, api.Grave, false)
	fires(t, b, 0, api.Enters, []int{2}, trigger(0, 2, 4))
}

// By Foe: the first Creature of another team.
func TestFoe(t *testing.T) {
	b := board(t, []int{0, 0, 1, 1}, [3]int{hunter, 1, api.Field}, [3]int{bear, 0, api.Field}, [3]int{bear, 3, api.Field}, [3]int{hunter, 2, api.Field})
	fires(t, b, 0, api.Enters, []int{1}, trigger(1, 1, 3))
	fires(t, b, 0, api.Enters, []int{4, 1}, trigger(1, 1, 3), trigger(2, 4, 1))
	b.Lay(0, api.Field, []int{2, 4, 3, 1})
	fires(t, b, 1, api.Enters, []int{4, 1}, trigger(2, 4, 2), trigger(1, 1, 4))
}

// By Own: the first Creature of its team, a mate's, too. That terms stand ahead of the aimed one doesn't matter.
func TestOwn(t *testing.T) {
	b := board(t, []int{0, 0, 1, 1}, [3]int{bear, 2, api.Field}, [3]int{bear, 1, api.Field}, [3]int{guard, 0, api.Field})
	fires(t, b, 0, api.Enters, []int{3}, trigger(0, 3, 2))
	b.Move(3, api.Field, false)
	fires(t, b, 0, api.Enters, []int{3}, trigger(0, 3, 3))
}

// By Side: the first other team that hasn't lost, not the next one.
func TestSide(t *testing.T) {
	b := board(t, []int{0, 1, 2}, [3]int{siege, 0, api.Field}, [3]int{siege, 1, api.Field}, [3]int{siege, 2, api.Grave})
	ids := []int{1, 2, 3}
	fires(t, b, 1, api.Enters, ids, trigger(1, 2, 0), trigger(2, 3, 0), trigger(0, 1, 1))
	b.Lose(0)
	fires(t, b, 1, api.Enters, ids, trigger(1, 2, 2), trigger(2, 3, 1))
	b.Lose(2)
	fires(t, b, 1, api.Enters, ids)
}

// By Self: 0, whatever is there.
func TestSelf(t *testing.T) {
	b := board(t, []int{0, 1}, [3]int{sage, 1, api.Exile})
	fires(t, b, 0, api.Enters, []int{1}, trigger(1, 1, 0))
	b.Add(bear, 0, api.Field)
	fires(t, b, 0, api.Enters, []int{1}, trigger(1, 1, 0))
}

// Where nothing may be aimed at, nothing is pushed; the others are.
func TestNothingToAimAt(t *testing.T) {
	for n, at := range map[int]int{guard: 0, archer: 0, hunter: 0, siege: 1} {
		b := board(t, []int{0, 1}, [3]int{n, 0, api.Grave}, [3]int{land, 1, api.Field}, [3]int{bear, 1, api.InHand}, [3]int{bear, 0, api.Stack})
		if at == 0 {
			fires(t, b, 0, api.Enters, []int{1})
		} else {
			fires(t, b, 0, api.Enters, []int{1}, trigger(0, 1, at))
		}
	}
	b := board(t, []int{0, 0, 1}, [3]int{sage, 0, api.Field}, [3]int{hunter, 0, api.Field}, [3]int{hunter, 1, api.Field}, [3]int{guard, 1, api.Field}, [3]int{hunter, 2, api.Grave})
	fires(t, b, 0, api.Enters, []int{1, 2, 3, 4, 5}, trigger(0, 1, 0), trigger(1, 4, 1), trigger(2, 5, 1))
	// Alone, a team has no foes and no other side.
	b = board(t, []int{0, 0}, [3]int{hunter, 0, api.Field}, [3]int{siege, 1, api.Field}, [3]int{bear, 1, api.Field}, [3]int{archer, 1, api.Field})
	fires(t, b, 0, api.Enters, []int{1, 2, 3, 4}, trigger(1, 4, 1))
}

// As far as there is room: those that come first in the order.
func TestNoRoom(t *testing.T) {
	b := giants(t)
	order := []stack.Entry{trigger(0, 2, 0), trigger(0, 6, 0), trigger(1, 4, 0), trigger(1, 8, 0), trigger(2, 3, 0), trigger(2, 7, 0), trigger(3, 1, 0), trigger(3, 5, 0)}
	for there := range 9 {
		first := slices.Repeat([]stack.Entry{{Seat: 1, Obj: 2, At: 3}}, there)
		s, was := stack.New(first...), b.Copy()
		is(t, "Fire", trig.Fire(b, s, 0, api.Dies, 8, 7, 6, 5, 4, 3, 2, 1), 8-there)
		stands(t, s, slices.Concat(first, order[:8-there])...)
		is(t, "Fire once more", trig.Fire(b, s, 0, api.Dies, 1, 2), 0)
		stands(t, s, slices.Concat(first, order[:8-there])...)
		is(t, "the board is what it was", b.Same(was), true)
	}
	// Those that don't fire take no room.
	b.Lose(0)
	s := stack.New(slices.Repeat([]stack.Entry{{}}, 6)...)
	is(t, "Fire", trig.Fire(b, s, 0, api.Dies, 1, 2, 3, 4, 5, 6, 7, 8), 2)
	stands(t, s, slices.Concat(slices.Repeat([]stack.Entry{{}}, 6), order[4:6])...)
}

// Each fires each time: that its trigger waits already doesn't matter.
func TestAgain(t *testing.T) {
	b, s := giants(t), stack.New()
	for n := range 8 {
		is(t, "Fire", trig.Fire(b, s, n, api.Dies, 1, 1), 1)
	}
	stands(t, s, slices.Repeat([]stack.Entry{trigger(3, 1, 0)}, 8)...)
}

// Of a team that has lost nothing is pushed; what it has may be aimed at still.
func TestLost(t *testing.T) {
	b := giants(t)
	b.Lose(0)
	fires(t, b, 0, api.Dies, []int{1, 2, 3, 4}, trigger(2, 3, 0), trigger(3, 1, 0))
	b = giants(t)
	b.Lose(1)
	fires(t, b, 1, api.Dies, []int{1, 2, 3, 4}, trigger(0, 2, 0), trigger(1, 4, 0))
	b.Lose(0)
	fires(t, b, 1, api.Dies, []int{1, 2, 3, 4})
	b = board(t, []int{0, 1}, [3]int{bear, 1, api.Field}, [3]int{hunter, 0, api.Field})
	b.Lose(1)
	fires(t, b, 0, api.Enters, []int{2}, trigger(0, 2, 1))
	// Not by its life alone.
	b = giants(t)
	b.Gain(0, -30)
	b.Sicken(0, 30)
	fires(t, b, 1, api.Dies, []int{4}, trigger(1, 4, 0))
}

func TestNil(t *testing.T) {
	b := giants(t)
	was := b.Copy()
	s := stack.New(trigger(1, 2, 3))
	is(t, "Fire of a nil board", trig.Fire(nil, s, 0, api.Dies, 1, 2, 3), 0)
	stands(t, s, trigger(1, 2, 3))
	is(t, "Fire of a nil stack", trig.Fire(b, nil, 0, api.Dies, 1, 2, 3), 0)
	is(t, "Fire of both nil", trig.Fire(nil, nil, 0, api.Dies, 1, 2, 3), 0)
	is(t, "the board is what it was", b.Same(was), true)
	is(t, "Would of a nil board", trig.Would(nil, 1, api.Dies), false)
	is(t, "Would of a nil board", trig.Would(nil, 0, api.Never), false)
	orders(t, nil, 0, []int{1, 2, 3})
	orders(t, nil, -1, nil)
	zero := new(stack.Stack)
	is(t, "Fire of a zero stack", trig.Fire(b, zero, 0, api.Dies, 1), 1)
	stands(t, zero, trigger(3, 1, 0))
}

// Boards that have no objects, or no teams.
func TestOddBoards(t *testing.T) {
	whole := giants(t)
	for _, b := range []*effect.Board{new(effect.Board), {Teams: whole.Teams}, {Store: new(object.Store), Teams: new(team.Teams)}, {Store: new(object.Store), Teams: whole.Teams}} {
		orders(t, b, 1, []int{0, 1, 2})
		fires(t, b, 1, api.Dies, []int{0, 1, 2})
		is(t, "Would", trig.Would(b, 1, api.Dies), false)
	}
	// Without teams there are objects, by seats and numbers, but whose team has none is as if it had lost.
	for _, x := range []*team.Teams{nil, new(team.Teams)} {
		b := &effect.Board{Store: giants(t).Store, Teams: x}
		for _, active := range []int{-1, 0, 1, 2, math.MaxInt, math.MinInt} {
			orders(t, b, active, []int{1, 2, 3, 4, 5, 6, 7, 8, 9}, 2, 6, 4, 8, 3, 7, 1, 5)
			fires(t, b, active, api.Dies, []int{1, 2, 3, 4, 5, 6, 7, 8, 9})
		}
		is(t, "Would", trig.Would(b, 1, api.Dies), true)
	}
	// Owners without a team come last.
	x, _ := team.New([]int{1, 0}, []int{20, 20})
	b := &effect.Board{Store: giants(t).Store, Teams: x}
	orders(t, b, 0, []int{1, 2, 3, 4}, 4, 2, 3, 1)
	orders(t, b, 1, []int{1, 2, 3, 4}, 2, 4, 3, 1)
	fires(t, b, 1, api.Dies, []int{1, 2, 3, 4}, trigger(0, 2, 0), trigger(1, 4, 0))
}
