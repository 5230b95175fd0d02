package prior_test

import (
	"testing"

	"hydra/api"
	"hydra/prior"
	"hydra/team"
)

// Nobody of a team that has lost may act, though it holds it.
func TestLostTeamHolds(t *testing.T) {
	x := teams(t, []int{0, 1, 1, 2}, 1)
	p := prior.New(1)
	held(t, p, x, 1)
	for seat := range 4 {
		refuses(t, p, x, seat, api.ErrPriority)
	}
	p.Reset(2)
	pass(t, p, x, 3, prior.Turns)
	held(t, p, x, 0)
	pass(t, p, x, 0, prior.All)
	held(t, p, x, 2)
}

// A team that loses while some of its seats have passed keeps these, and nobody of it may act any more.
func TestLosesWhileItHolds(t *testing.T) {
	x := giants(t)
	p := prior.New(0)
	pass(t, p, x, 1, prior.Waits)
	x.Lose(0)
	held(t, p, x, 0, 1)
	refuses(t, p, x, 0, api.ErrPriority)
	refuses(t, p, x, 1, api.ErrPriority)
	p.Reset(1)
	pass(t, p, x, 3, prior.Waits)
	pass(t, p, x, 2, prior.All)
	held(t, p, x, 1)
}

// Teams that have lost are gone over, and aren't waited for.
func TestLostTeamIsGoneOver(t *testing.T) {
	x := teams(t, []int{0, 1, 2, 3}, 1)
	p := prior.New(0)
	for range 2 {
		pass(t, p, x, 0, prior.Turns)
		held(t, p, x, 2)
		pass(t, p, x, 2, prior.Turns)
		held(t, p, x, 3)
		pass(t, p, x, 3, prior.All)
		held(t, p, x, 0)
	}
}

// The last team that is left holds it on and on: all have passed, when its seats have.
func TestLastTeam(t *testing.T) {
	for _, x := range []*team.Teams{teams(t, []int{0, 0}), teams(t, []int{0, 0, 1, 2}, 1, 2)} {
		p := prior.New(0)
		for range 3 {
			pass(t, p, x, 1, prior.Waits)
			held(t, p, x, 0, 1)
			pass(t, p, x, 0, prior.All)
			held(t, p, x, 0)
		}
	}
}

// One seat alone passes for all.
func TestOneSeat(t *testing.T) {
	x := teams(t, []int{0})
	p := prior.New(0)
	pass(t, p, x, 0, prior.All)
	act(t, p, x, 0)
	pass(t, p, x, 0, prior.All)
	held(t, p, x, 0)
}

// A team that loses ahead of its turn isn't waited for any more.
func TestLosesAheadOfItsTurn(t *testing.T) {
	x := teams(t, []int{0, 1, 2})
	p := prior.New(0)
	pass(t, p, x, 0, prior.Turns)
	x.Lose(2)
	pass(t, p, x, 1, prior.All)
	held(t, p, x, 0)
}

// What is counted is how many teams passed, against how many are left: a pass counts on, when its team has lost since.
func TestLosesBehindItsPass(t *testing.T) {
	x := teams(t, []int{0, 1, 2})
	p := prior.New(0)
	pass(t, p, x, 0, prior.Turns)
	x.Lose(0)
	held(t, p, x, 1)
	pass(t, p, x, 1, prior.All)
	held(t, p, x, 2)
	pass(t, p, x, 2, prior.Turns)
	pass(t, p, x, 1, prior.All)
}

// More may have passed than are left.
func TestMoreThanAreLeft(t *testing.T) {
	x := teams(t, []int{0, 1, 2, 3})
	p := prior.New(0)
	pass(t, p, x, 0, prior.Turns)
	pass(t, p, x, 1, prior.Turns)
	pass(t, p, x, 2, prior.Turns)
	x.Lose(1)
	x.Lose(2)
	pass(t, p, x, 3, prior.All)
	held(t, p, x, 0)
	pass(t, p, x, 0, prior.Turns)
	pass(t, p, x, 3, prior.All)
}

// That a team loses is no act.
func TestLosingIsNoAct(t *testing.T) {
	x := teams(t, []int{0, 0, 1, 2})
	p := prior.New(0)
	pass(t, p, x, 0, prior.Waits)
	x.Lose(2)
	held(t, p, x, 0, 0)
	pass(t, p, x, 1, prior.Turns)
	pass(t, p, x, 2, prior.All)
}
