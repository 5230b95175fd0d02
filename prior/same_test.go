package prior_test

import (
	"testing"

	"hydra/api"
	"hydra/prior"
	"hydra/team"
)

// begun is priority of team 1, that team 0 has passed, and seat 2.
func begun(t *testing.T, x *team.Teams) *prior.Prior {
	t.Helper()
	p := prior.New(0)
	pass(t, p, x, 1, prior.Waits)
	pass(t, p, x, 0, prior.Turns)
	pass(t, p, x, 2, prior.Waits)
	return p
}

// changes is all ways by which priority may become other.
func changes(t *testing.T, x *team.Teams) map[string]func(p *prior.Prior) {
	t.Helper()
	return map[string]func(p *prior.Prior){
		"Pass":    func(p *prior.Prior) { pass(t, p, x, 3, prior.All) },
		"Act":     func(p *prior.Prior) { act(t, p, x, 3) },
		"Reset 0": func(p *prior.Prior) { p.Reset(0) },
		"Reset 1": func(p *prior.Prior) { p.Reset(1) },
	}
}

func TestCopy(t *testing.T) {
	x := giants(t)
	for name, change := range changes(t, x) {
		p := begun(t, x)
		c := p.Copy()
		held(t, c, x, 1, 2)
		is(t, "Same of a copy", p.Same(c) && c.Same(p), true)
		change(p)
		held(t, c, x, 1, 2)
		is(t, name+": Same of what it was", p.Same(c) || c.Same(p), false)
		now := p.Copy()
		change(c)
		is(t, name+": Same when both changed", p.Same(c) && c.Same(p), true)
		is(t, name+": the copy's changes are its own", p.Same(now), true)
	}
}

// A copy counts on as the first one does.
func TestCopyCountsOn(t *testing.T) {
	x := giants(t)
	p := begun(t, x)
	c := p.Copy()
	pass(t, p, x, 3, prior.All)
	pass(t, c, x, 3, prior.All)
}

// Two are one just if the team, who has passed of it, and how many teams have passed are.
func TestSame(t *testing.T) {
	x := teams(t, []int{0, 0, 1, 1})
	var l []*prior.Prior
	for team := range 2 {
		for seats := range 3 {
			for other := range 2 {
				p := prior.New(team)
				if other == 1 {
					p.Reset(1 - team)
					pass(t, p, x, 2-2*team, prior.Waits)
					pass(t, p, x, 3-2*team, prior.Turns)
				}
				if seats > 0 {
					pass(t, p, x, 2*team+seats-1, prior.Waits)
				}
				l = append(l, p)
			}
		}
	}
	for _, n := range odd() {
		l = append(l, prior.New(n))
	}
	for i, a := range l {
		for j, b := range l {
			if a.Same(b) != (i == j) {
				t.Fatalf("Same of %v and %v = %t", *a, *b, a.Same(b))
			}
		}
	}
}

// How it came about doesn't matter.
func TestSameOnOtherWays(t *testing.T) {
	x := giants(t)
	p := begun(t, x)
	act(t, p, x, 3)
	is(t, "Same behind an act", p.Same(prior.New(1)), true)
	p = begun(t, x)
	pass(t, p, x, 3, prior.All)
	is(t, "Same behind all", p.Same(prior.New(0)), true)
	p, q := prior.New(1), prior.New(1)
	pass(t, p, x, 2, prior.Waits)
	pass(t, p, x, 3, prior.Turns)
	pass(t, q, x, 3, prior.Waits)
	pass(t, q, x, 2, prior.Turns)
	is(t, "Same in another order", p.Same(q) && q.Same(p), true)
	is(t, "Same, but for the team that has passed", p.Same(prior.New(0)), false)
}

// Nil is nothing, refuses, and is the same as nil alone.
func TestNilPrior(t *testing.T) {
	var p *prior.Prior
	x := giants(t)
	was := x.Copy()
	is(t, "Team", p.Team(), -1)
	is(t, "Passed", len(p.Passed()), 0)
	for _, seat := range append(odd(), 0, 1, 2, 3) {
		for _, x := range []*team.Teams{x, {}, nil} {
			refuses(t, p, x, seat, api.ErrArg)
		}
	}
	for _, team := range append(odd(), 0, 1, 2, 3) {
		p.Reset(team)
	}
	is(t, "Team", p.Team(), -1)
	is(t, "Copy", p.Copy(), nil)
	is(t, "Same of nils", p.Same(nil), true)
	for _, x := range []*prior.Prior{prior.New(0), prior.New(-1), new(prior.Prior)} {
		is(t, "Same as nil", x.Same(nil) || p.Same(x), false)
	}
	is(t, "the teams are what they were", x.Same(was), true)
}

// Without teams nobody may act; it stays what it is.
func TestNilTeams(t *testing.T) {
	x := giants(t)
	for _, p := range []*prior.Prior{prior.New(0), prior.New(-1), begun(t, x)} {
		for _, seat := range append(odd(), 0, 1, 2, 3) {
			refuses(t, p, nil, seat, api.ErrArg)
		}
	}
	p := begun(t, x)
	p.Pass(nil, 3)
	p.Act(nil, 3)
	held(t, p, x, 1, 2)
	pass(t, p, x, 3, prior.All)
}

// Teams of no seats have nobody who may act.
func TestNoTeams(t *testing.T) {
	for _, n := range append(odd(), 0, 1) {
		p := prior.New(n)
		for _, seat := range append(odd(), 0, 1, 2, 3) {
			refuses(t, p, new(team.Teams), seat, api.ErrPriority)
		}
	}
}

// A seat, or a team, that there isn't may nothing; nor may a seat that is of no team for a team that is none.
func TestNoSuchSeat(t *testing.T) {
	for _, sides := range [][]int{{0}, {0, 1}, {0, 1, 1}, {0, 0, 1, 1}} {
		x := teams(t, sides)
		for _, team := range append(odd(), 0, 1, len(sides)) {
			p := prior.New(team)
			for _, seat := range append(odd(), len(sides), len(sides)+1, 1<<32, 1<<8) {
				refuses(t, p, x, seat, api.ErrPriority)
			}
			held(t, p, x, team)
		}
	}
}

// A zero one is as team 0's, with nobody that has passed.
func TestZero(t *testing.T) {
	x := giants(t)
	p := new(prior.Prior)
	held(t, p, x, 0)
	pass(t, p, x, 1, prior.Waits)
	pass(t, p, x, 0, prior.Turns)
	held(t, p, x, 1)
}
