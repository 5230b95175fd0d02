package prior_test

import (
	"math"
	"slices"
	"testing"

	"hydra/api"
	"hydra/prior"
	"hydra/team"
)

// teams is teams of seats, each of life 20; lost are those that have lost.
func teams(t *testing.T, sides []int, lost ...int) *team.Teams {
	t.Helper()
	x, e := team.New(sides, slices.Repeat([]int{20}, slices.Max(sides)+1))
	if e != api.OK {
		t.Fatal("team.New:", e)
	}
	for _, n := range lost {
		if !x.Lose(n) {
			t.Fatalf("Lose(%d)", n)
		}
	}
	return x
}

// giants is two heads against two.
func giants(t *testing.T) *team.Teams {
	t.Helper()
	return teams(t, []int{0, 0, 1, 1})
}

func is[T comparable](t *testing.T, what string, got, want T) {
	t.Helper()
	if got != want {
		t.Errorf("%s = %v; want %v", what, got, want)
	}
}

// odd is numbers that are out of all ranges, or nearly so.
func odd() []int { return []int{math.MinInt, -7, -1, 4, 5, 9, 64, math.MaxInt} }

// pass lets a seat pass, and asks what comes of it.
func pass(t *testing.T, p *prior.Prior, x *team.Teams, seat, want int) {
	t.Helper()
	n, e := p.Pass(x, seat)
	if n != want || e != api.OK {
		t.Errorf("Pass(%d) = %d, %d; want %d, 0", seat, n, e, want)
	}
}

// act lets a seat act.
func act(t *testing.T, p *prior.Prior, x *team.Teams, seat int) {
	t.Helper()
	is(t, "Act", p.Act(x, seat), api.OK)
}

// held asks which team holds priority, and who of it has passed; who may act are just its other seats.
func held(t *testing.T, p *prior.Prior, x *team.Teams, team int, passed ...int) {
	t.Helper()
	is(t, "Team", p.Team(), team)
	if l := p.Passed(); !slices.Equal(l, passed) {
		t.Errorf("Passed() = %v; want %v", l, passed)
	}
	for seat := range x.Seats() {
		may := x.Of(seat) == team && !x.Lost(team) && !slices.Contains(passed, seat)
		if p.May(x, seat) != may {
			t.Errorf("May(%d) = %t", seat, !may)
		}
	}
}

// refuses asks that a seat may neither pass nor act, and that it changes nothing to ask for it.
func refuses(t *testing.T, p *prior.Prior, x *team.Teams, seat int, want api.Errno) {
	t.Helper()
	was, sides := p.Copy(), x.Copy()
	n, e := p.Pass(x, seat)
	is(t, "Pass", [2]int{n, int(e)}, [2]int{0, int(want)})
	is(t, "Act", p.Act(x, seat), want)
	is(t, "May", p.May(x, seat), false)
	is(t, "it is what it was", p.Same(was) && x.Same(sides), true)
}

func TestNumbers(t *testing.T) {
	is(t, "what comes of a pass", [3]int{prior.Waits, prior.Turns, prior.All}, [3]int{0, 1, 2})
}

// The chapter's example, and twice round from there.
func TestExample(t *testing.T) {
	x := giants(t)
	p := prior.New(0)
	for range 3 {
		held(t, p, x, 0)
		pass(t, p, x, 0, prior.Waits)
		held(t, p, x, 0, 0)
		pass(t, p, x, 1, prior.Turns)
		held(t, p, x, 1)
		pass(t, p, x, 2, prior.Waits)
		held(t, p, x, 1, 2)
		pass(t, p, x, 3, prior.All)
	}
	held(t, p, x, 0)
}

// Seats of a team pass in whichever order; they are told rising.
func TestPassInAnyOrder(t *testing.T) {
	x := teams(t, []int{1, 0, 1, 1})
	for _, l := range [][]int{{0, 2, 3}, {0, 3, 2}, {2, 0, 3}, {2, 3, 0}, {3, 0, 2}, {3, 2, 0}} {
		p := prior.New(1)
		pass(t, p, x, l[0], prior.Waits)
		held(t, p, x, 1, l[0])
		pass(t, p, x, l[1], prior.Waits)
		held(t, p, x, 1, min(l[0], l[1]), max(l[0], l[1]))
		pass(t, p, x, l[2], prior.Turns)
		held(t, p, x, 0)
		pass(t, p, x, 1, prior.All)
		held(t, p, x, 1)
	}
}

// New takes whatever number; nobody may act for a team that there isn't.
func TestNew(t *testing.T) {
	x := giants(t)
	for _, n := range append(odd(), 0, 1, 2, 3) {
		held(t, prior.New(n), x, n)
	}
	a, b := prior.New(1), prior.New(1)
	pass(t, a, x, 3, prior.Waits)
	held(t, b, x, 1)
}

// Who acts lets all of its team act again, and the team goes on holding it.
func TestActForgetsSeats(t *testing.T) {
	x := teams(t, []int{0, 1, 1, 1})
	p := prior.New(1)
	pass(t, p, x, 1, prior.Waits)
	pass(t, p, x, 3, prior.Waits)
	act(t, p, x, 2)
	held(t, p, x, 1)
	act(t, p, x, 2)
	held(t, p, x, 1)
	pass(t, p, x, 3, prior.Waits)
	pass(t, p, x, 1, prior.Waits)
	pass(t, p, x, 2, prior.Turns)
}

// Who acts lets the teams that had passed be asked again, too.
func TestActForgetsTeams(t *testing.T) {
	x := giants(t)
	p := prior.New(0)
	pass(t, p, x, 0, prior.Waits)
	pass(t, p, x, 1, prior.Turns)
	pass(t, p, x, 3, prior.Waits)
	act(t, p, x, 2)
	held(t, p, x, 1)
	pass(t, p, x, 2, prior.Waits)
	pass(t, p, x, 3, prior.Turns)
	held(t, p, x, 0)
	pass(t, p, x, 1, prior.Waits)
	pass(t, p, x, 0, prior.All)
	held(t, p, x, 1)
}

// Acting each time nobody is ever through.
func TestNeverAll(t *testing.T) {
	x := teams(t, []int{0, 1, 2})
	p := prior.New(0)
	for n := range 12 {
		act(t, p, x, n%3)
		pass(t, p, x, n%3, prior.Turns)
	}
	held(t, p, x, 0)
	pass(t, p, x, 0, prior.Turns)
	pass(t, p, x, 1, prior.All)
}

// Behind All it begins anew: as many teams have to pass again.
func TestAllForgets(t *testing.T) {
	x := teams(t, []int{0, 1, 2})
	p := prior.New(2)
	for n := range 15 {
		pass(t, p, x, (n+2)%3, []int{prior.Turns, prior.Turns, prior.All}[n%3])
	}
	held(t, p, x, 2)
}

// What a refused pass asked for isn't counted.
func TestRefused(t *testing.T) {
	x := giants(t)
	p := prior.New(0)
	for range 3 {
		refuses(t, p, x, 2, api.ErrPriority)
		refuses(t, p, x, 3, api.ErrPriority)
	}
	pass(t, p, x, 1, prior.Waits)
	refuses(t, p, x, 1, api.ErrPriority)
	refuses(t, p, x, 2, api.ErrPriority)
	held(t, p, x, 0, 1)
	pass(t, p, x, 0, prior.Turns)
	refuses(t, p, x, 0, api.ErrPriority)
	refuses(t, p, x, 1, api.ErrPriority)
	held(t, p, x, 1)
	pass(t, p, x, 2, prior.Waits)
	pass(t, p, x, 3, prior.All)
}

// Reset forgets who passed, seats and teams, whichever team holds it then.
func TestReset(t *testing.T) {
	x := giants(t)
	for team := range 2 {
		p := prior.New(0)
		pass(t, p, x, 0, prior.Waits)
		pass(t, p, x, 1, prior.Turns)
		pass(t, p, x, 2, prior.Waits)
		p.Reset(team)
		held(t, p, x, team)
		is(t, "Same as a new one", p.Same(prior.New(team)), true)
		pass(t, p, x, 2*team, prior.Waits)
		pass(t, p, x, 2*team+1, prior.Turns)
	}
	p := prior.New(0)
	for _, n := range odd() {
		p.Reset(n)
		held(t, p, x, n)
	}
}

// The answers are the caller's own.
func TestPassedIsOwn(t *testing.T) {
	x := teams(t, []int{0, 0, 0})
	p := prior.New(0)
	pass(t, p, x, 0, prior.Waits)
	pass(t, p, x, 1, prior.Waits)
	a, b := p.Passed(), p.Passed()
	a[0], a[1] = 7, 8
	is(t, "the other list is what it was", slices.Equal(b, []int{0, 1}), true)
	held(t, p, x, 0, 0, 1)
	_ = append(a[:1], 9)
	held(t, p, x, 0, 0, 1)
}

// The teams are asked, and left as they are.
func TestTeamsAreLeft(t *testing.T) {
	x := giants(t)
	was := x.Copy()
	p := prior.New(0)
	for n := range 8 {
		p.May(x, n%4)
		p.Pass(x, n%4)
	}
	act(t, p, x, 0)
	is(t, "the teams are what they were", x.Same(was), true)
}
