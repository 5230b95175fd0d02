package check_test

import (
	"math"
	"testing"

	"hydra/api"
	"hydra/check"
	"hydra/effect"
	"hydra/object"
	"hydra/stack"
	"hydra/team"
)

// doomed asks which teams are to lose, and that asking changes nothing.
func doomed(t *testing.T, b *effect.Board, want ...bool) {
	t.Helper()
	was := b.Copy()
	for n, x := range want {
		is(t, "Doomed", check.Doomed(b, n), x)
	}
	check.Stable(b)
	is(t, "the board is what it was", b.Same(was), true)
}

// falls asks, of each of both teams, whether what is done to it lets it lose; if so, just it, and nothing else changes.
func falls(t *testing.T, lost bool, do func(b *effect.Board, team int)) {
	t.Helper()
	for n := range 2 {
		b := giants(t)
		do(b, n)
		doomed(t, b, lost && n == 0, lost && n == 1)
		if !lost {
			rests(t, b)
			continue
		}
		want := b.Copy()
		want.Lose(n)
		runs(t, b, stack.New(), 0, nil, []int{n})
		is(t, "Same", b.Same(want), true)
		is(t, "Winner", b.Winner(), 1-n)
	}
}

// By a life of 0 or less.
func TestLife(t *testing.T) {
	for _, life := range []int{20, 999, 2, 1, 0, -1, -2, -999} {
		falls(t, life <= 0, func(b *effect.Board, team int) { b.Gain(team, life-20) })
	}
}

// By a poison of 10 or more.
func TestPoison(t *testing.T) {
	for _, poison := range []int{0, 1, 8, 9, 10, 11, 999} {
		falls(t, poison >= 10, func(b *effect.Board, team int) { b.Sicken(team, poison) })
	}
}

// What stops short of each of them isn't enough together.
func TestNearlyLost(t *testing.T) {
	falls(t, false, func(b *effect.Board, team int) {
		b.Sicken(team, 9)
		b.Gain(team, -19)
		set(t, b, func(o *api.Obj) { o.Hurt = 1 }, 1, 2, 3, 4)
	})
}

// By any of its seats that is dry: one alone, or several; and then none is dry.
func TestDry(t *testing.T) {
	sides := []int{0, 1, 1, 0}
	for bits := 1; bits < 16; bits++ {
		b := board(t, sides)
		want := b.Copy()
		var lost []int
		for seat := range 4 {
			if bits>>seat&1 == 1 {
				b.Draw(seat, 1)
				want.Lose(sides[seat])
			}
		}
		for n := range 2 {
			if want.Lost(n) {
				lost = append(lost, n)
			}
		}
		doomed(t, b, want.Lost(0), want.Lost(1))
		runs(t, b, stack.New(), 0, nil, lost)
		is(t, "Same", b.Same(want), true)
		for seat := range 4 {
			is(t, "Dry", b.Dry(seat), false)
		}
	}
}

// Who has drawn its last card isn't dry.
func TestLastCard(t *testing.T) {
	b := board(t, []int{0, 1}, [3]int{land, 0, api.Library})
	b.Draw(0, 1)
	doomed(t, b, false, false)
	rests(t, b)
	b.Draw(0, 1)
	doomed(t, b, true, false)
	runs(t, b, stack.New(), 0, nil, []int{0})
}

// All at once, by numbers, whichever team is active, and whyever they lose.
func TestSeveralLose(t *testing.T) {
	for active := range 5 {
		b := board(t, []int{3, 2, 1, 0})
		b.Draw(0, 1)
		b.Gain(2, -25)
		b.Sicken(0, 10)
		doomed(t, b, true, false, true, true)
		runs(t, b, stack.New(), active, nil, []int{0, 2, 3})
		is(t, "Winner", b.Winner(), 1)
	}
	b := giants(t)
	b.Gain(0, -20)
	b.Sicken(1, 10)
	runs(t, b, stack.New(), 1, nil, []int{0, 1})
	is(t, "Winner", b.Winner(), -1)
}

// One that has lost doesn't lose once more, nor is it to.
func TestHasLost(t *testing.T) {
	b := giants(t)
	b.Lose(1)
	b.Gain(1, -20)
	b.Sicken(1, 10)
	doomed(t, b, false, false)
	rests(t, b)
	b.Gain(0, -20)
	doomed(t, b, true, false)
	runs(t, b, stack.New(), 0, nil, []int{0})
	// What comes back to life has lost all the same.
	b.Gain(0, 40)
	rests(t, b)
	is(t, "Lost", b.Lost(0), true)
}

// A dry seat of a team that has lost: nobody loses, but a round lets no seat be dry.
func TestDryOfLost(t *testing.T) {
	b := giants(t)
	b.Lose(0)
	want := b.Copy()
	b.Draw(1, 1)
	doomed(t, b, false, false)
	runs(t, b, stack.New(), 0, nil, nil)
	is(t, "Same", b.Same(want), true)
	is(t, "Dry", b.Dry(1), false)
}

// Creatures die ahead of teams' losing: their triggers fire still.
func TestDiesAndLoses(t *testing.T) {
	b := board(t, []int{0, 1}, [3]int{ghost, 0, api.Field}, [3]int{ghost, 1, api.Field}, [3]int{bear, 1, api.Field})
	wound(t, b, 1, 2, 3)
	b.Gain(1, -20)
	b.Draw(1, 1)
	doomed(t, b, false, true)
	s := stack.New()
	runs(t, b, s, 0, []int{1, 2, 3}, []int{1})
	stands(t, s, trigger(0, 1), trigger(1, 2))
	is(t, "Dry", b.Dry(1), false)
	is(t, "Lost", b.Lost(0), false)
}

// Creatures of a team that has lost die, but nothing of theirs fires.
func TestDiesWhenLost(t *testing.T) {
	b := board(t, []int{0, 1, 2}, [3]int{ghost, 0, api.Field}, [3]int{ghost, 1, api.Field}, [3]int{ghost, 2, api.Field})
	b.Lose(1)
	wound(t, b, 2, 3)
	s := stack.New()
	runs(t, b, s, 1, []int{2, 3}, nil)
	stands(t, s, trigger(2, 3))
	are(t, b, 1, api.Grave, 2)
	// What a team has that loses stays where it is.
	b.Gain(0, -20)
	runs(t, b, s, 1, nil, []int{0})
	are(t, b, 0, api.Field, 1)
}

// A team that there isn't is to lose nothing.
func TestNoSuchTeam(t *testing.T) {
	b := giants(t)
	b.Gain(0, -20)
	b.Gain(1, -20)
	b.Draw(0, 1)
	for _, n := range []int{-1, 2, 3, 4, 1 << 32, math.MinInt, math.MaxInt} {
		is(t, "Doomed", check.Doomed(b, n), false)
	}
	doomed(t, b, true, true)
}

// Of a nil board, or stack: nothing, and false.
func TestNil(t *testing.T) {
	b := giants(t)
	wound(t, b, 1, 2)
	b.Gain(0, -20)
	b.Draw(3, 1)
	was, s := b.Copy(), stack.New(trigger(1, 2))
	told(t, check.Run(nil, s, 0), check.Report{})
	stands(t, s, trigger(1, 2))
	told(t, check.Run(b, nil, 0), check.Report{})
	told(t, check.Run(nil, nil, 0), check.Report{})
	is(t, "the board is what it was", b.Same(was), true)
	is(t, "Stable", check.Stable(b), false)
	is(t, "Stable of a nil board", check.Stable(nil), false)
	for n := -1; n < 5; n++ {
		is(t, "Doomed of a nil board", check.Doomed(nil, n), false)
	}
	zero := new(stack.Stack)
	runs(t, b, zero, 0, []int{1, 2}, []int{0, 1})
	stands(t, zero)
}

// Boards that effect.New didn't make: what isn't there neither dies nor loses.
func TestOddBoards(t *testing.T) {
	whole := giants(t)
	for _, b := range []*effect.Board{new(effect.Board), {Teams: whole.Teams}, {Store: whole.Store}, {Store: new(object.Store), Teams: new(team.Teams)}, {Store: new(object.Store), Teams: whole.Teams}} {
		rests(t, b)
		for n := -1; n < 5; n++ {
			is(t, "Doomed", check.Doomed(b, n), false)
		}
	}
	// Without teams Creatures die still, but nothing fires.
	b := &effect.Board{Store: board(t, []int{0, 1}, [3]int{ghost, 1, api.Field}).Store}
	wound(t, b, 1)
	s := stack.New()
	runs(t, b, s, 0, []int{1}, nil)
	stands(t, s)
	are(t, b, 1, api.Grave, 1)
	// Without objects teams lose still.
	b = &effect.Board{Teams: whole.Teams.Copy()}
	b.Gain(1, -20)
	runs(t, b, s, 0, nil, []int{1})
}
