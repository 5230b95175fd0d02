package fight_test

import (
	"testing"

	"hydra/api"
	"hydra/effect"
	"hydra/fight"
)

// refuses asks that Attack refuses, and changes nothing.
func refuses(t *testing.T, b *effect.Board, team, seat, id int, want api.Errno) {
	t.Helper()
	was := b.Copy()
	is(t, "Attack", fight.Attack(b, team, seat, id), want)
	is(t, "the board is what it was", b.Same(was), true)
}

// keepsOff asks that Block refuses, and changes nothing.
func keepsOff(t *testing.T, b *effect.Board, team, seat, id, at int, want api.Errno) {
	t.Helper()
	was := b.Copy()
	is(t, "Block", fight.Block(b, team, seat, id, at), want)
	is(t, "the board is what it was", b.Same(was), true)
}

func TestNoSuchObject(t *testing.T) {
	b := field(t, [2]int{bear, 0}, [2]int{bear, 2})
	attack(t, b, 1)
	for _, id := range append(odd(), 0, 3, 4) {
		for seat := range 4 {
			refuses(t, b, 0, seat, id, api.ErrNone)
			keepsOff(t, b, 0, seat, id, 1, api.ErrNone)
		}
	}
}

// Just a Creature on the Field attacks, or blocks.
func TestNoCreatureOnTheField(t *testing.T) {
	for n, c := range table() {
		for _, zone := range zones {
			if c.Kind == api.Creature && zone == api.Field {
				continue
			}
			b := board(t, sides(0, 1), [3]int{n, 0, zone}, [3]int{n, 1, zone}, [3]int{bear, 0, api.Field}, [3]int{bear, 1, api.Field})
			attack(t, b, 3)
			refuses(t, b, 0, 0, 1, api.ErrZone)
			refuses(t, b, 1, 0, 1, api.ErrZone)
			keepsOff(t, b, 0, 1, 2, 3, api.ErrZone)
			keepsOff(t, b, 1, 1, 2, 3, api.ErrZone)
			// Nor is anything else blocked.
			set(t, b, func(o *api.Obj) { o.Attacks = true }, 1)
			keepsOff(t, b, 0, 1, 4, 1, api.ErrTarget)
		}
	}
}

// Its owner is the seat, not a mate of it, and of that team.
func TestAttackOfOthers(t *testing.T) {
	for owner := range 4 {
		b := field(t, [2]int{bear, owner})
		for _, seat := range append(odd(), 0, 1, 2, 3, 4) {
			for _, team := range append(odd(), 0, 1, 2) {
				if seat != owner || team != owner/2 {
					refuses(t, b, team, seat, 1, api.ErrPriority)
				}
			}
		}
	}
}

// Its owner is the seat, not a mate of it, and not of that team; of a team that there isn't nobody attacks.
func TestBlockOfOthers(t *testing.T) {
	for owner := range 4 {
		b := field(t, [2]int{bear, 0}, [2]int{bear, 2}, [2]int{bear, owner})
		attack(t, b, 1, 2)
		for _, seat := range append(odd(), 0, 1, 2, 3, 4) {
			for _, team := range append(odd(), 0, 1, 2) {
				at := 1 + owner/2
				if seat != owner || team == owner/2 {
					keepsOff(t, b, team, seat, 3, at, api.ErrPriority)
					keepsOff(t, b, team, seat, 3, 3-at, api.ErrPriority)
				} else if team != 1-owner/2 {
					keepsOff(t, b, team, seat, 3, at, api.ErrTarget)
					keepsOff(t, b, team, seat, 3, 3-at, api.ErrTarget)
				}
			}
		}
	}
}

func TestTwice(t *testing.T) {
	b := field(t, [2]int{bear, 0}, [2]int{guard, 0}, [2]int{bear, 2})
	attack(t, b, 1, 2)
	refuses(t, b, 0, 0, 1, api.ErrTwice)
	refuses(t, b, 0, 0, 2, api.ErrTwice)
	block(t, b, 3, 1)
	keepsOff(t, b, 0, 2, 3, 1, api.ErrTwice)
	keepsOff(t, b, 0, 2, 3, 2, api.ErrTwice)
	b.Move(1, api.Grave, false)
	keepsOff(t, b, 0, 2, 3, 2, api.ErrTwice)
}

// One that is tapped neither attacks nor blocks, though it have Vigil.
func TestTapped(t *testing.T) {
	b := field(t, [2]int{bear, 0}, [2]int{guard, 0}, [2]int{guard, 2}, [2]int{bear, 0})
	attack(t, b, 4)
	set(t, b, func(o *api.Obj) { o.Tapped = true }, 1, 2, 3)
	refuses(t, b, 0, 0, 1, api.ErrTapped)
	refuses(t, b, 0, 0, 2, api.ErrTapped)
	keepsOff(t, b, 0, 2, 3, 4, api.ErrTapped)
}

// What is to be blocked attacks, and is of the team.
func TestNoTarget(t *testing.T) {
	b := field(t, [2]int{bear, 0}, [2]int{bear, 1}, [2]int{bear, 2}, [2]int{bear, 3}, [2]int{land, 0})
	attack(t, b, 1, 3)
	for _, at := range append(odd(), 0, 2, 3, 4, 5, 6) {
		keepsOff(t, b, 0, 3, 4, at, api.ErrTarget)
	}
	b.Move(1, api.Grave, false)
	keepsOff(t, b, 0, 3, 4, 1, api.ErrTarget)
	b.Move(1, api.Field, false)
	keepsOff(t, b, 0, 3, 4, 1, api.ErrTarget)
}

// The errors are asked in this order: each of these is wrong in all that stands behind its error, too.
func TestOrderOfErrors(t *testing.T) {
	b := field(t, [2]int{land, 0}, [2]int{bear, 0}, [2]int{bear, 2}, [2]int{land, 2})
	set(t, b, func(o *api.Obj) { o.Attacks, o.Block, o.Tapped, o.Sick = true, 2, true, true }, 1, 2, 3, 4)
	refuses(t, b, 1, 3, 9, api.ErrNone)
	refuses(t, b, 1, 3, 1, api.ErrZone)
	refuses(t, b, 1, 3, 2, api.ErrPriority)
	refuses(t, b, 0, 1, 2, api.ErrPriority)
	refuses(t, b, 1, 0, 2, api.ErrPriority)
	refuses(t, b, 0, 0, 2, api.ErrTwice)
	set(t, b, func(o *api.Obj) { o.Attacks = false }, 2)
	refuses(t, b, 0, 0, 2, api.ErrTapped)
	set(t, b, func(o *api.Obj) { o.Tapped = false }, 2)
	refuses(t, b, 0, 0, 2, api.ErrSick)
	keepsOff(t, b, 1, 0, 9, 9, api.ErrNone)
	keepsOff(t, b, 1, 0, 4, 9, api.ErrZone)
	keepsOff(t, b, 1, 0, 3, 9, api.ErrPriority)
	keepsOff(t, b, 1, 2, 3, 9, api.ErrPriority)
	keepsOff(t, b, 0, 3, 3, 9, api.ErrPriority)
	keepsOff(t, b, 0, 2, 3, 9, api.ErrTwice)
	set(t, b, func(o *api.Obj) { o.Block = 0 }, 3)
	keepsOff(t, b, 0, 2, 3, 9, api.ErrTapped)
	set(t, b, func(o *api.Obj) { o.Tapped = false }, 3)
	keepsOff(t, b, 0, 2, 3, 9, api.ErrTarget)
}

// nothing asks that there is nobody to fight.
func nothing(t *testing.T, b *effect.Board) {
	t.Helper()
	for _, n := range append(odd(), 0, 1, 2, 3) {
		are(t, "Attackers", attackers(b, n))
		are(t, "Blockers", fight.Blockers(b, n))
		are(t, "Plan", fight.Plan(b, n))
		are(t, "Blow", fight.Blow(b, n))
	}
}

func TestNilBoard(t *testing.T) {
	nothing(t, nil)
	for _, n := range append(odd(), 0, 1) {
		is(t, "Attack", fight.Attack(nil, n, n, n), api.ErrArg)
		is(t, "Block", fight.Block(nil, n, n, n, n), api.ErrArg)
	}
}

// Boards that effect.New didn't make.
func TestOddBoards(t *testing.T) {
	nothing(t, new(effect.Board))
	nothing(t, &effect.Board{Teams: field(t).Teams})
	b := field(t, [2]int{bear, 0}, [2]int{bear, 2})
	set(t, b, func(o *api.Obj) { o.Attacks = true }, 1)
	b = &effect.Board{Store: b.Store}
	nothing(t, b)
	for _, team := range append(odd(), 0, 1) {
		refuses(t, b, team, 2, 2, api.ErrPriority)
		keepsOff(t, b, team, 2, 2, 1, api.ErrTarget)
	}
}
