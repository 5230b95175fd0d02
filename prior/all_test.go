package prior_test

import (
	"slices"
	"testing"

	"hydra/api"
	"hydra/prior"
	"hydra/team"
)

// A model is what the words of the chapter say of priority, by lists: which team holds it, who of it has passed, and the teams that passed, one behind the other.
type model struct {
	team       int
	seats, row []int
}

// may tells whether a seat may act.
func (m model) may(x *team.Teams, seat int) bool {
	mine := slices.Contains(x.In(m.team), seat)
	return mine && !x.Lost(m.team) && !slices.Contains(m.seats, seat)
}

// pass is the model behind a seat's pass, and what comes of it.
func (m model) pass(x *team.Teams, seat int) (model, int, api.Errno) {
	if !m.may(x, seat) {
		return m, 0, api.ErrPriority
	}
	seats := slices.Sorted(slices.Values(append(slices.Clone(m.seats), seat)))
	if !slices.Equal(seats, x.In(m.team)) {
		return model{m.team, seats, m.row}, prior.Waits, api.OK
	}
	left := 0
	for n := range x.Len() {
		if !x.Lost(n) {
			left++
		}
	}
	row := append(slices.Clone(m.row), m.team)
	if len(row) >= left {
		return model{team: x.Next(m.team)}, prior.All, api.OK
	}
	return model{team: x.Next(m.team), row: row}, prior.Turns, api.OK
}

// act is the model behind a seat's act.
func (m model) act(x *team.Teams, seat int) (model, api.Errno) {
	if !m.may(x, seat) {
		return m, api.ErrPriority
	}
	return model{team: m.team}, api.OK
}

// A walk is all ways of so many steps: of each the model is asked what it does.
type walk struct {
	t    *testing.T
	acts bool // whether seats act, and teams are reset, too
}

// on takes all steps from where priority, teams and model are.
func (w walk) on(p *prior.Prior, x *team.Teams, m model, steps int) {
	w.asks(p, x, m)
	if steps == 0 || w.t.Failed() {
		return
	}
	for seat := -1; seat <= x.Seats(); seat++ {
		w.passes(p.Copy(), x, m, seat, steps)
		if w.acts {
			w.does(p.Copy(), x, m, seat, steps)
		}
	}
	for n := range x.Len() {
		if !x.Lost(n) {
			y := x.Copy()
			y.Lose(n)
			w.on(p, y, m, steps-1)
		}
		if w.acts {
			q := p.Copy()
			q.Reset(n)
			w.on(q, x, model{team: n}, steps-1)
		}
	}
}

// passes lets a seat pass, and goes on.
func (w walk) passes(p *prior.Prior, x *team.Teams, m model, seat, steps int) {
	next, want, err := m.pass(x, seat)
	n, e := p.Pass(x, seat)
	if n != want || e != err {
		w.t.Fatalf("Pass(%d) of %v = %d, %d; want %d, %d", seat, m, n, e, want, err)
	}
	if e == api.OK {
		w.on(p, x, next, steps-1)
	} else {
		w.asks(p, x, m)
	}
}

// does lets a seat act, and goes on.
func (w walk) does(p *prior.Prior, x *team.Teams, m model, seat, steps int) {
	next, err := m.act(x, seat)
	if e := p.Act(x, seat); e != err {
		w.t.Fatalf("Act(%d) of %v = %d; want %d", seat, m, e, err)
	}
	if err == api.OK {
		w.on(p, x, next, steps-1)
	} else {
		w.asks(p, x, m)
	}
}

// asks asks whether priority is what the model is.
func (w walk) asks(p *prior.Prior, x *team.Teams, m model) {
	w.t.Helper()
	if p.Team() != m.team || !slices.Equal(p.Passed(), m.seats) {
		w.t.Fatalf("team %d, of which %v have passed; want %v", p.Team(), p.Passed(), m)
	}
	for seat := -1; seat <= x.Seats(); seat++ {
		if p.May(x, seat) != m.may(x, seat) {
			w.t.Fatalf("May(%d) of %v = %t", seat, m, p.May(x, seat))
		}
	}
}

// All ways of a few steps of several sides, from each team on: passes, acts, teams that lose, and resets.
func TestAllWays(t *testing.T) {
	for _, sides := range [][]int{{0}, {0, 1}, {1, 0}, {0, 0, 1}, {0, 1, 1}, {2, 0, 1}, {0, 0, 1, 1}, {1, 0, 1, 0}, {0, 1, 1, 1}, {3, 1, 0, 2}} {
		x := teams(t, sides)
		for n := range x.Len() {
			walk{t, true}.on(prior.New(n), x, model{team: n}, 5)
		}
	}
}

// Longer ways, of passes, and of teams that lose, alone.
func TestLongWays(t *testing.T) {
	for _, sides := range [][]int{{0, 1}, {2, 0, 1}, {0, 0, 1, 1}, {0, 1, 2, 1}, {0, 1, 1, 1}, {3, 1, 0, 2}} {
		x := teams(t, sides)
		for n := range x.Len() {
			walk{t, false}.on(prior.New(n), x, model{team: n}, 10)
		}
	}
}
