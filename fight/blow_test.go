package fight_test

import (
	"math"
	"testing"

	"hydra/api"
	"hydra/effect"
	"hydra/fight"
)

// hit is that one strikes another one, or a team: -1 is team 0, -2 team 1.
func hit(from, to, n int) fight.Hit { return fight.Hit{From: from, To: to, N: n} }

// plans asks what is planned; by that nothing changes.
func plans(t *testing.T, b *effect.Board, team int, want ...fight.Hit) {
	t.Helper()
	was := b.Copy()
	are(t, "Plan", fight.Plan(b, team), want...)
	is(t, "the board is what it was", b.Same(was), true)
}

// blows asks what is planned, and done: that is the same.
func blows(t *testing.T, b *effect.Board, team int, want ...fight.Hit) {
	t.Helper()
	plans(t, b, team, want...)
	are(t, "Blow", fight.Blow(b, team), want...)
}

// hurts asks the hurts of objects, from number 1 on.
func hurts(t *testing.T, b *effect.Board, want ...int) {
	t.Helper()
	var l []int
	for id := range want {
		l = append(l, get(t, b, id+1).Hurt)
	}
	are(t, "the hurts", l, want...)
}

// lives asks the lives of team 0 and team 1, and their poisons.
func lives(t *testing.T, b *effect.Board, a, c, poisonA, poisonC int) {
	t.Helper()
	are(t, "lives and poisons", []int{b.Life(0), b.Life(1), b.Poison(0), b.Poison(1)}, a, c, poisonA, poisonC)
}

// The chapter's example.
func TestNobodyBlocks(t *testing.T) {
	b := field(t, [2]int{bear, 0}, [2]int{bear, 2})
	attack(t, b, 1)
	want := b.Copy()
	want.Gain(1, -2)
	blows(t, b, 0, hit(1, -2, 2))
	is(t, "the board is what it is to be", b.Same(want), true)
	// They attack still: the blow may come again.
	blows(t, b, 0, hit(1, -2, 2))
	lives(t, b, 20, 16, 0, 0)
}

// Nobody attacks: nothing is done, also of a team that there isn't, or of the other one.
func TestNobodyAttacks(t *testing.T) {
	b := field(t, [2]int{bear, 0}, [2]int{bear, 2})
	was := b.Copy()
	blows(t, b, 0)
	blows(t, b, 1)
	is(t, "the board is what it was", b.Same(was), true)
	attack(t, b, 1)
	was = b.Copy()
	for _, team := range append(odd(), 1, 2, 3) {
		blows(t, b, team)
	}
	is(t, "the board is what it was", b.Same(was), true)
}

// The other way round: team 1's attackers strike team 0.
func TestTeam1(t *testing.T) {
	b := field(t, [2]int{bear, 3}, [2]int{snake, 2}, [2]int{hare, 1})
	attack(t, b, 1, 2)
	block(t, b, 3, 1)
	blows(t, b, 1, hit(1, 3, 2), hit(3, 1, 1), hit(2, -1, 1))
	hurts(t, b, 1, 0, 2)
	lives(t, b, 19, 20, 1, 0)
}

// By the powers, toughnesses and hurts that they have before: both die.
func TestAtOnce(t *testing.T) {
	b := field(t, [2]int{bear, 0}, [2]int{bear, 2})
	attack(t, b, 1)
	block(t, b, 2, 1)
	blows(t, b, 0, hit(1, 2, 2), hit(2, 1, 2))
	hurts(t, b, 2, 2)
	lives(t, b, 20, 20, 0, 0)
	// Dead, but on the Field still: who leaves it is told by the checks.
	blows(t, b, 0, hit(1, 2, 2), hit(2, 1, 2))
	hurts(t, b, 4, 4)
}

// Power is shared out in the order of the Field: as much as each lacks, and all that is left to the last one.
func TestShares(t *testing.T) {
	for _, c := range []struct {
		power int
		want  [3]int
	}{{0, [3]int{0, 0, 0}}, {1, [3]int{1, 0, 0}}, {2, [3]int{2, 0, 0}}, {3, [3]int{2, 1, 0}}, {5, [3]int{2, 3, 0}}, {6, [3]int{2, 3, 1}}, {7, [3]int{2, 3, 2}}, {9, [3]int{2, 3, 4}}, {999, [3]int{2, 3, 994}}} {
		b := field(t, [2]int{ox, 0}, [2]int{bear, 2}, [2]int{hawk, 3}, [2]int{hare, 2})
		set(t, b, func(o *api.Obj) { o.Boost = c.power - 7 }, 1)
		attack(t, b, 1)
		for id := 4; id > 1; id-- {
			block(t, b, id, 1)
		}
		var want []fight.Hit
		for i, n := range c.want {
			if n > 0 {
				want = append(want, hit(1, i+2, n))
			}
		}
		blows(t, b, 0, append(want, hit(2, 1, 2), hit(3, 1, 1), hit(4, 1, 1))...)
		hurts(t, b, 4, c.want[0], c.want[1], c.want[2])
	}
}

// The Field's order counts, not that in which they blocked, or came.
func TestSharesInTheFieldsOrder(t *testing.T) {
	b := field(t, [2]int{ox, 0}, [2]int{bear, 2}, [2]int{hawk, 3})
	attack(t, b, 1)
	block(t, b, 2, 1)
	block(t, b, 3, 1)
	b.Lay(0, api.Field, []int{3, 1, 2})
	blows(t, b, 0, hit(1, 3, 3), hit(1, 2, 4), hit(3, 1, 1), hit(2, 1, 2))
}

// What one lacks is its toughness, with counters and boosts, less its hurt; one that lacks nothing gets nothing, but the last one.
func TestLacks(t *testing.T) {
	for _, c := range []struct{ hurt, count, boost, want int }{
		{0, 0, 0, 3}, {1, 0, 0, 2}, {2, 0, 0, 1}, {3, 0, 0, 0}, {4, 0, 0, 0}, {999, 0, 0, 0}, {0, 2, 0, 5}, {0, 0, 2, 5}, {1, 1, 1, 4}, {0, -2, 0, 1}, {0, 0, -3, 0}, {2, -2, 0, 0},
		// Just the store's Set makes hurts below 0, or far too great.
		{-1, 0, 0, 4}, {math.MinInt, 0, 0, 7}, {math.MaxInt, 0, 0, 0},
	} {
		b := field(t, [2]int{ox, 0}, [2]int{leech, 2}, [2]int{tower, 3})
		attack(t, b, 1)
		block(t, b, 2, 1)
		block(t, b, 3, 1)
		set(t, b, func(o *api.Obj) { o.Hurt, o.Count, o.Boost = c.hurt, c.count, c.boost }, 2)
		got := map[int]int{}
		for _, h := range fight.Plan(b, 0) {
			if h.From == 1 {
				got[h.To] += h.N
			}
		}
		is(t, "what the first one gets", got[2], c.want)
		is(t, "what the last one gets", got[3], 7-c.want)
	}
}

// One blocker gets all, whatever it lacks.
func TestOneBlocker(t *testing.T) {
	b := field(t, [2]int{ox, 1}, [2]int{hare, 3})
	attack(t, b, 1)
	block(t, b, 2, 1)
	set(t, b, func(o *api.Obj) { o.Hurt = 1 }, 2)
	blows(t, b, 0, hit(1, 2, 7), hit(2, 1, 1))
	hurts(t, b, 1, 8)
	lives(t, b, 20, 20, 0, 0)
}

// Powers are those of layer 8: with counters and boosts, within 0 to 999.
func TestPowers(t *testing.T) {
	b := field(t, [2]int{bear, 0}, [2]int{bear, 1}, [2]int{bear, 0}, [2]int{bear, 0}, [2]int{bear, 2})
	attack(t, b, 1, 2, 3, 4)
	block(t, b, 5, 4)
	set(t, b, func(o *api.Obj) { o.Count, o.Boost = 1, 4 }, 1)
	set(t, b, func(o *api.Obj) { o.Count = -2 }, 2)
	set(t, b, func(o *api.Obj) { o.Boost = -1 }, 3)
	set(t, b, func(o *api.Obj) { o.Count = -2 }, 5)
	blows(t, b, 0, hit(1, -2, 7), hit(3, -2, 1), hit(4, 5, 2))
	lives(t, b, 20, 12, 0, 0)
	hurts(t, b, 0, 0, 0, 0, 2)
}

// For each attacker its hits, then those of its blockers.
func TestOrderOfHits(t *testing.T) {
	b := field(t, [2]int{hare, 3}, [2]int{bear, 0}, [2]int{bear, 2}, [2]int{leech, 1}, [2]int{hawk, 2}, [2]int{hawk, 0}, [2]int{hawk, 3})
	attack(t, b, 6, 4, 2)
	block(t, b, 7, 6)
	block(t, b, 5, 2)
	block(t, b, 1, 2)
	block(t, b, 3, 4)
	blows(t, b, 0, hit(2, 1, 1), hit(2, 5, 1), hit(1, 2, 1), hit(5, 2, 1), hit(4, 3, 3), hit(3, 4, 2), hit(6, 7, 1), hit(7, 6, 1))
	lives(t, b, 23, 20, 0, 0)
}

// Who is blocked no more strikes the team, and gives poison.
func TestBlockersLeft(t *testing.T) {
	for _, zone := range []int{api.Grave, api.InHand, api.Exile, api.Library, api.Stack, api.Command} {
		b := field(t, [2]int{snake, 0}, [2]int{bear, 2}, [2]int{bear, 3})
		attack(t, b, 1)
		block(t, b, 2, 1)
		block(t, b, 3, 1)
		b.Move(2, zone, false)
		plans(t, b, 0, hit(1, 3, 1), hit(3, 1, 2))
		b.Move(3, zone, false)
		blows(t, b, 0, hit(1, -2, 1))
		lives(t, b, 20, 19, 0, 1)
		b = field(t, [2]int{snake, 0}, [2]int{bear, 2})
		attack(t, b, 1)
		block(t, b, 2, 1)
		b.Move(2, zone, false)
		b.Move(2, api.Field, false)
		plans(t, b, 0, hit(1, -2, 1))
	}
}

// An attacker that has left strikes nobody, and nobody strikes it.
func TestAttackerLeft(t *testing.T) {
	b := field(t, [2]int{ox, 0}, [2]int{bear, 2}, [2]int{bear, 1})
	attack(t, b, 1, 3)
	block(t, b, 2, 1)
	b.Move(1, api.InHand, false)
	plans(t, b, 0, hit(3, -2, 2))
	b.Move(1, api.Field, false)
	blows(t, b, 0, hit(3, -2, 2))
	hurts(t, b, 0, 0, 0)
}

// Tapped or not, sick or not: who attacks, and who blocks, strikes.
func TestTappedSince(t *testing.T) {
	b := field(t, [2]int{guard, 0}, [2]int{bear, 2})
	attack(t, b, 1)
	block(t, b, 2, 1)
	set(t, b, func(o *api.Obj) { o.Tapped, o.Sick = true, true }, 1, 2)
	blows(t, b, 0, hit(1, 2, 1), hit(2, 1, 2))
	set(t, b, func(o *api.Obj) { o.Tapped, o.Sick = false, false }, 1, 2)
	blows(t, b, 0, hit(1, 2, 1), hit(2, 1, 2))
}

// Link gives life for each blow, attacker or blocker, as much as was struck.
func TestLink(t *testing.T) {
	b := field(t, [2]int{leech, 1})
	attack(t, b, 1)
	blows(t, b, 0, hit(1, -2, 3))
	lives(t, b, 23, 17, 0, 0)
	b = field(t, [2]int{leech, 0}, [2]int{hare, 3}, [2]int{leech, 2})
	attack(t, b, 1)
	block(t, b, 2, 1)
	block(t, b, 3, 1)
	blows(t, b, 0, hit(1, 2, 1), hit(1, 3, 2), hit(2, 1, 1), hit(3, 1, 3))
	lives(t, b, 23, 23, 0, 0)
	b = field(t, [2]int{leech, 0}, [2]int{hare, 3})
	attack(t, b, 1)
	block(t, b, 2, 1)
	blows(t, b, 0, hit(1, 2, 3), hit(2, 1, 1))
	lives(t, b, 23, 20, 0, 0)
}

// Who strikes for 0 gives no life.
func TestLinkOfNoPower(t *testing.T) {
	b := field(t, [2]int{tower, 0}, [2]int{tower, 2})
	attack(t, b, 1)
	block(t, b, 2, 1)
	blows(t, b, 0)
	lives(t, b, 20, 20, 0, 0)
}

// Each one that is Toxic gives one poison, whatever its power, if nobody blocks it.
func TestToxic(t *testing.T) {
	b := field(t, [2]int{snake, 0}, [2]int{tower, 1}, [2]int{snake, 1}, [2]int{tower, 0}, [2]int{bear, 0}, [2]int{hare, 2}, [2]int{hare, 3}, [2]int{snake, 2}, [2]int{tower, 3})
	attack(t, b, 1, 2, 3, 4, 5)
	block(t, b, 6, 3)
	block(t, b, 7, 4)
	set(t, b, func(o *api.Obj) { o.Boost = 8 }, 1)
	blows(t, b, 0, hit(1, -2, 9), hit(3, 6, 1), hit(6, 3, 1), hit(7, 4, 1), hit(5, -2, 2))
	lives(t, b, 20, 9, 0, 2)
	// Nor does a blocker.
	block(t, b, 8, 5)
	block(t, b, 9, 1)
	fight.Blow(b, 0)
	lives(t, b, 20, 9, 0, 3)
}

// Lives and poisons are held, and go past what a team lives with: who loses is told by the checks.
func TestBeyondLife(t *testing.T) {
	b := field(t, [2]int{ox, 0}, [2]int{snake, 1})
	attack(t, b, 1, 2)
	b.Gain(1, -18)
	b.Sicken(1, 9)
	blows(t, b, 0, hit(1, -2, 7), hit(2, -2, 1))
	lives(t, b, 20, -6, 0, 10)
	is(t, "nobody has lost yet", b.Over(), false)
	b.Gain(1, -993)
	b.Sicken(1, 989)
	fight.Blow(b, 0)
	lives(t, b, 20, -999, 0, 999)
}

// Hits are done in their order, each with its Link: so lives are held.
func TestHeldLife(t *testing.T) {
	b := field(t, [2]int{ox, 0}, [2]int{ox, 1}, [2]int{leech, 2})
	attack(t, b, 1, 2)
	block(t, b, 3, 1)
	b.Gain(1, 999)
	blows(t, b, 0, hit(1, 3, 7), hit(3, 1, 3), hit(2, -2, 7))
	lives(t, b, 20, 992, 0, 0)
	b = field(t, [2]int{leech, 0})
	attack(t, b, 1)
	b.Gain(0, 978)
	fight.Blow(b, 0)
	lives(t, b, 999, 17, 0, 0)
}

// Hurts add up, and are held.
func TestHurtsAddUp(t *testing.T) {
	b := field(t, [2]int{ox, 0}, [2]int{bear, 2}, [2]int{bear, 3})
	attack(t, b, 1)
	block(t, b, 2, 1)
	block(t, b, 3, 1)
	set(t, b, func(o *api.Obj) { o.Hurt = 1 }, 1, 2)
	set(t, b, func(o *api.Obj) { o.Hurt = 998 }, 3)
	blows(t, b, 0, hit(1, 2, 1), hit(1, 3, 6), hit(2, 1, 2), hit(3, 1, 2))
	hurts(t, b, 5, 2, 999)
}

// Where there is no other team left, the next team is itself.
func TestNoOtherTeam(t *testing.T) {
	b := board(t, sides(0, 0), [3]int{bear, 0, api.Field}, [3]int{snake, 1, api.Field})
	attack(t, b, 1, 2)
	blows(t, b, 0, hit(1, -1, 2), hit(2, -1, 1))
	lives(t, b, 17, 0, 1, 0)
	b = field(t, [2]int{bear, 0})
	attack(t, b, 1)
	b.Lose(1)
	blows(t, b, 0, hit(1, -1, 2))
	b.Lose(0)
	blows(t, b, 0, hit(1, -1, 2))
	lives(t, b, 16, 20, 0, 0)
}
