package phase_test

import (
	"slices"
	"testing"

	"hydra/api"
	"hydra/effect"
	"hydra/phase"
)

// A model is what a turn is, by the words of the chapter.
type model struct{ team, no, phase int }

// next is the model's next phase, or turn.
func (m model) next(b *effect.Board) model {
	if m.phase < 8 {
		return model{m.team, m.no, m.phase + 1}
	}
	for n := range b.Teams.Len() {
		if x := (m.team + 1 + n) % b.Teams.Len(); !b.Lost(x) {
			return model{x, m.no + 1, 1}
		}
	}
	return model{m.team, m.no + 1, 1}
}

// begin does on a board, object by object and seat by seat, what the model's phase does.
func (m model) begin(t *testing.T, b *effect.Board) {
	t.Helper()
	for o := range b.Store.All() {
		if o.Zone != api.Field {
			continue
		}
		if m.phase == 1 && b.Of(o.Owner) == m.team {
			set(t, b, func(o *api.Obj) { o.Tapped, o.Sick = false, false }, o.Id)
		}
		if m.phase == 8 {
			set(t, b, func(o *api.Obj) { o.Hurt, o.Boost, o.Attacks, o.Block = 0, 0, false, 0 }, o.Id)
		}
	}
	for seat := range b.Teams.Seats() {
		if m.phase == 2 && m.no > 1 && b.Of(seat) == m.team {
			b.Draw(seat, 1)
		}
	}
}

// stir lets something happen between two phases, so that each of them has something to do.
func stir(t *testing.T, b *effect.Board, n int) {
	t.Helper()
	for o := range b.Store.All() {
		if (o.Id+n)%3 == 0 {
			set(t, b, busy, o.Id)
		}
	}
}

// Many turns of several sides, with all ways for teams to have lost: after each Next the board, and the turn, are what their models are.
func TestAllTurns(t *testing.T) {
	for _, sides := range [][]int{{0}, {0, 1}, {1, 0}, {0, 0, 1, 1}, {1, 0, 1, 0}, {0, 1, 1, 1}, {2, 0, 1}, {3, 1, 0, 2}} {
		for bits := range 1 << (slices.Max(sides) + 1) {
			b := crowd(t, sides...)
			for team := range b.Teams.Len() {
				if bits>>team&1 == 1 {
					b.Lose(team)
				}
			}
			for team := range b.Teams.Len() {
				goesOn(t, b.Copy(), team)
			}
		}
	}
}

// goesOn is turns, from a team's on, till the seats have drawn all they had, and some more.
func goesOn(t *testing.T, b *effect.Board, team int) {
	t.Helper()
	y, m := phase.New(team), model{team, 1, 1}
	want := b.Copy()
	y.Begin(b)
	m.begin(t, want)
	for n := range 8 * 7 * b.Teams.Len() {
		at(t, y, m.team, m.no, m.phase)
		is(t, "Main", y.Main(), m.phase == 3 || m.phase == 7)
		is(t, "the board is what it is to be", b.Same(want), true)
		if t.Failed() {
			t.Fatal(n, m)
		}
		stir(t, b, n)
		stir(t, want, n)
		y.Next(b)
		m = m.next(want)
		m.begin(t, want)
	}
}
