package phase_test

import (
	"math"
	"slices"
	"testing"

	"hydra/api"
	"hydra/effect"
	"hydra/phase"
)

// busy is an object that has all that one may have.
func busy(o *api.Obj) {
	o.Tapped, o.Sick, o.Hurt, o.Count, o.Boost, o.Block, o.Attacks = true, true, 1, 2, 3, 4, true
}

// crowd is a board where each seat has one of each card in each zone, the last seat first: all are busy.
func crowd(t *testing.T, sides ...int) *effect.Board {
	t.Helper()
	var l [][3]int
	for n := range table() {
		for seat := len(sides) - 1; seat >= 0; seat-- {
			for _, zone := range zones {
				l = append(l, [3]int{n, seat, zone})
			}
		}
	}
	b := board(t, sides, l...)
	for o := range b.Store.All() {
		set(t, b, busy, o.Id)
	}
	return b
}

// turn is a turn on its way.
func turn(team, no, now int) *phase.Turn { return &phase.Turn{Team: team, No: no, Phase: now} }

// begins lets a turn's phase begin, and asks whether the board is what is wanted, and the turn what it was.
func begins(t *testing.T, y *phase.Turn, b, want *effect.Board) {
	t.Helper()
	was := y.Copy()
	y.Begin(b)
	is(t, "the board is what it is to be", b.Same(want) && want.Same(b), true)
	is(t, "the turn is what it was", y.Same(was), true)
	if t.Failed() {
		t.Fatal(*y)
	}
}

// Just what the team's seats own is untapped, and well: just on the Field, and nothing else of it changes.
func TestWake(t *testing.T) {
	for _, sides := range [][]int{{0, 0, 1, 1}, {0, 1, 1, 1}, {1, 0, 2}} {
		for team := range slices.Max(sides) + 1 {
			b := crowd(t, sides...)
			want := b.Copy()
			for o := range b.Store.All() {
				if o.Zone == api.Field && sides[o.Owner] == team {
					set(t, want, func(o *api.Obj) { o.Tapped, o.Sick = false, false }, o.Id)
				}
			}
			is(t, "something is to be done", b.Same(want), false)
			begins(t, turn(team, 1, phase.Wake), b, want)
			begins(t, turn(team, 2, phase.Wake), b, want)
		}
	}
}

// Tapped alone, and sick alone, too.
func TestWakesOfEach(t *testing.T) {
	b := board(t, []int{0, 1}, [3]int{land, 1, api.Field}, [3]int{bear, 1, api.Field}, [3]int{bear, 1, api.Field}, [3]int{hare, 1, api.Field}, [3]int{land, 0, api.Field})
	set(t, b, func(o *api.Obj) { o.Tapped = true }, 1, 3, 5)
	want := b.Copy()
	set(t, want, func(o *api.Obj) { o.Tapped, o.Sick = false, false }, 1, 2, 3)
	begins(t, turn(1, 4, phase.Wake), b, want)
	for o := range b.Field() {
		is(t, "tapped", o.Tapped, o.Id == 5)
		is(t, "sick", o.Sick, false)
	}
}

// drawn lets a seat's top card be in its hand.
func drawn(t *testing.T, b *effect.Board, seat int) {
	t.Helper()
	id, ok := b.Top(seat, api.Library)
	is(t, "a card is there", ok, true)
	is(t, "Move", b.Move(id, api.InHand, false), api.OK)
}

// One card of each seat of the team, from the top of its Library onto its hand.
func TestDraw(t *testing.T) {
	for _, sides := range [][]int{{0, 0, 1, 1}, {0, 1, 1, 1}, {1, 0, 2}, {0}} {
		for team := range slices.Max(sides) + 1 {
			b := crowd(t, sides...)
			want := b.Copy()
			for seat, x := range sides {
				if x == team {
					drawn(t, want, seat)
				}
			}
			for _, no := range []int{2, 3, 4, 100, math.MaxInt} {
				b := b.Copy()
				begins(t, turn(team, no, phase.Draw), b, want)
				for seat, x := range sides {
					cards := len(table())
					if x == team {
						cards++
					}
					is(t, "a hand", len(b.Store.In(seat, api.InHand)), cards)
					is(t, "Dry", b.Dry(seat), false)
				}
			}
		}
	}
}

// In turn 1 nobody draws, so that nobody is dry, either.
func TestNobodyDrawsInTurn1(t *testing.T) {
	for team := range 2 {
		b := crowd(t, 0, 0, 1, 1)
		begins(t, turn(team, 1, phase.Draw), b, b.Copy())
		b = giants(t)
		begins(t, turn(team, 1, phase.Draw), b, b.Copy())
		for seat := range 4 {
			is(t, "Dry", b.Dry(seat), false)
		}
	}
}

// A seat without a Library is dry; its mate draws all the same, on either side of it.
func TestDrawsNothing(t *testing.T) {
	for has := 2; has <= 3; has++ {
		b := board(t, []int{0, 0, 1, 1}, [3]int{bear, has, api.Library}, [3]int{bear, 0, api.Library})
		y := turn(1, 2, phase.Draw)
		y.Begin(b)
		for seat := range 4 {
			is(t, "Dry", b.Dry(seat), seat == 5-has)
		}
		is(t, "the hand", slices.Equal(b.Store.In(has, api.InHand), []int{1}), true)
		is(t, "nobody has lost yet", b.Over(), false)
		y.Begin(b)
		is(t, "Dry, both", b.Dry(2) && b.Dry(3), true)
	}
}

// In these phases the turn does nothing of itself.
func TestDoesNothing(t *testing.T) {
	for _, n := range []int{phase.First, phase.Strike, phase.Shield, phase.Blow, phase.Second} {
		for team := range 2 {
			for no := range 4 {
				b := crowd(t, 0, 0, 1, 1)
				begins(t, turn(team, no, n), b, b.Copy())
				b = giants(t)
				begins(t, turn(team, no, n), b, b.Copy())
			}
		}
	}
}

// Whoever's turn it is: on the whole Field nobody has hurts and boosts, nor attacks, nor blocks. All else is as it was.
func TestEnd(t *testing.T) {
	for team := -1; team < 3; team++ {
		b := crowd(t, 0, 0, 1, 1)
		want := b.Copy()
		for o := range b.Field() {
			set(t, want, func(o *api.Obj) { o.Hurt, o.Boost, o.Attacks, o.Block = 0, 0, false, 0 }, o.Id)
		}
		begins(t, turn(team, team+2, phase.End), b, want)
		o, _ := b.Get(slices.Max(b.Store.In(0, api.Field)))
		is(t, "what it is now", o, api.Obj{Id: o.Id, Card: scheme, Owner: 0, Zone: api.Field, Tapped: true, Sick: true, Count: 2})
	}
}

// Each of them alone, too.
func TestEndsOfEach(t *testing.T) {
	for name, change := range map[string]func(o *api.Obj){
		"a hurt":       func(o *api.Obj) { o.Hurt = 1 },
		"a boost":      func(o *api.Obj) { o.Boost = 1 },
		"less by some": func(o *api.Obj) { o.Boost = -1 },
		"an attack":    func(o *api.Obj) { o.Attacks = true },
		"a block":      func(o *api.Obj) { o.Block = 1 },
	} {
		b := board(t, []int{0, 1}, [3]int{bear, 0, api.Field}, [3]int{bear, 1, api.Field}, [3]int{hare, 1, api.Field})
		want := b.Copy()
		for id := 1; id <= 3; id++ {
			b := b.Copy()
			set(t, b, change, id)
			is(t, name, b.Same(want), false)
			begins(t, turn(0, 1, phase.End), b, want)
		}
	}
}

func TestNoSuchPhase(t *testing.T) {
	for _, n := range []int{math.MinInt, -8, -2, -1, 0, 9, 10, 17, 1<<32 + 1, math.MaxInt} {
		b := crowd(t, 0, 0, 1, 1)
		begins(t, turn(0, 2, n), b, b.Copy())
	}
}

// A team that there isn't has no seats: nothing wakes, and nobody draws.
func TestNoSuchTeam(t *testing.T) {
	for _, team := range []int{math.MinInt, -2, -1, 2, 3, 4, math.MaxInt} {
		for n := phase.Wake; n < phase.End; n++ {
			b := crowd(t, 0, 0, 1, 1)
			begins(t, turn(team, 2, n), b, b.Copy())
		}
	}
}

// A team that has lost has its turn as any other one, if it is its turn.
func TestLostTeam(t *testing.T) {
	for n := phase.Wake; n <= phase.End; n++ {
		b := crowd(t, 0, 0, 1, 1)
		lost := b.Copy()
		turn(1, 2, n).Begin(b)
		b.Lose(1)
		lost.Lose(1)
		begins(t, turn(1, 2, n), lost, b)
	}
}

// Boards that New didn't make have no store, and no teams.
func TestEmptyBoard(t *testing.T) {
	for _, team := range []int{-1, 0, 1, math.MaxInt} {
		for n := range 11 {
			b := new(effect.Board)
			begins(t, turn(team, 2, n), b, new(effect.Board))
			is(t, "May", turn(team, 2, n).May(b, 0), false)
		}
		y := phase.New(team)
		for n := 1; n <= 8; n++ {
			at(t, y, team, 1, n)
			y.Next(new(effect.Board))
		}
		at(t, y, -1, 2, phase.Wake)
	}
}
