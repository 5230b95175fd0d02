package team_test

import (
	"math"
	"slices"
	"testing"

	"hydra/api"
	"hydra/team"
)

var (
	wrongs = []int{-1, -2, 4, 5, 100, math.MaxInt, math.MinInt}
	// The numbers at which something is held, those beside them, and the ends of what numbers there are.
	numbers = []int{math.MinInt, math.MinInt + 1, -5000, -1999, -1998, -1000, -999, -998, -40, -20, -2, -1,
		0, 1, 2, 20, 40, 959, 960, 978, 979, 980, 997, 998, 999, 1000, 1998, 1999, 5000, math.MaxInt - 1, math.MaxInt}
)

// teams is teams of seats, which there should be.
func teams(t *testing.T, sides, life []int) *team.Teams {
	t.Helper()
	x, e := team.New(sides, life)
	if x == nil || e != api.OK {
		t.Fatalf("New(%v, %v): %d", sides, life, e)
	}
	return x
}

// giants is two heads against two.
func giants(t *testing.T) *team.Teams {
	t.Helper()
	return teams(t, []int{0, 0, 1, 1}, []int{30, 30})
}

// four is four seats, each a team of its own.
func four(t *testing.T) *team.Teams {
	t.Helper()
	return teams(t, []int{0, 1, 2, 3}, []int{20, 21, 22, 23})
}

// tells asks whether a call told what it should.
func tells(t *testing.T, call string, got, want api.Errno) {
	t.Helper()
	if got != want {
		t.Errorf("%s = %d; want %d", call, got, want)
	}
}

// is asks whether a call answered what it should.
func is[T comparable](t *testing.T, call string, got, want T) {
	t.Helper()
	if got != want {
		t.Errorf("%s = %v; want %v", call, got, want)
	}
}

// are asks whether a call answered the list that it should.
func are(t *testing.T, call string, got []int, want ...int) {
	t.Helper()
	if !slices.Equal(got, want) {
		t.Errorf("%s = %v; want %v", call, got, want)
	}
}

func foes(x *team.Teams, n int) []int { return slices.Collect(x.Foes(n)) }

// shares asks what a team's life and poison are.
func shares(t *testing.T, x *team.Teams, n, life, poison int) {
	t.Helper()
	is(t, "Life", x.Life(n), life)
	is(t, "Poison", x.Poison(n), poison)
}

// isNone asks whether there is no such team, whatever is asked.
func isNone(t *testing.T, x *team.Teams, n int) {
	t.Helper()
	are(t, "In", x.In(n))
	shares(t, x, n, 0, 0)
	is(t, "Lost", x.Lost(n), true)
	is(t, "Lose", x.Lose(n), false)
	is(t, "Next", x.Next(n), -1)
}

// The chapter's example.
func TestGiants(t *testing.T) {
	x := giants(t)
	is(t, "Next(1)", x.Next(1), 0)
	is(t, "Over", x.Over(), false)
	is(t, "Winner", x.Winner(), -1)
	is(t, "Lose(0)", x.Lose(0), true)
	is(t, "Over", x.Over(), true)
	is(t, "Winner", x.Winner(), 1)
}

func TestSeats(t *testing.T) {
	x := teams(t, []int{1, 0, 1, 2}, []int{40, 20, 1})
	is(t, "Len", x.Len(), 3)
	is(t, "Seats", x.Seats(), 4)
	for seat, n := range []int{1, 0, 1, 2} {
		is(t, "Of", x.Of(seat), n)
	}
	are(t, "In(0)", x.In(0), 1)
	are(t, "In(1)", x.In(1), 0, 2)
	are(t, "In(2)", x.In(2), 3)
	shares(t, x, 0, 40, 0)
	shares(t, x, 1, 20, 0)
	shares(t, x, 2, 1, 0)
	for a := range 4 {
		for b := range 4 {
			is(t, "Mates", x.Mates(a, b), a == b || a+b == 2 && a != 1)
		}
	}
}

func TestOneSeat(t *testing.T) {
	x := teams(t, []int{0}, []int{999})
	is(t, "Len", x.Len(), 1)
	is(t, "Seats", x.Seats(), 1)
	are(t, "In", x.In(0), 0)
	is(t, "Mates", x.Mates(0, 0), true)
	are(t, "Foes", foes(x, 0))
	shares(t, x, 0, 999, 0)
	is(t, "Next", x.Next(0), 0)
	is(t, "Over", x.Over(), true)
	is(t, "Winner", x.Winner(), 0)
	is(t, "Lose", x.Lose(0), true)
	is(t, "Over", x.Over(), true)
	is(t, "Winner", x.Winner(), -1)
	is(t, "Next", x.Next(0), 0)
}

func TestNoSuchSeat(t *testing.T) {
	x := teams(t, []int{1, 0, 0}, []int{9, 9})
	for _, seat := range append(wrongs, 3) {
		is(t, "Of", x.Of(seat), -1)
		is(t, "Mates", x.Mates(seat, seat), false)
		is(t, "Mates", x.Mates(seat, -1), false)
		is(t, "Mates", x.Mates(seat, 3), false)
		for there := range 3 {
			is(t, "Mates", x.Mates(seat, there), false)
			is(t, "Mates", x.Mates(there, seat), false)
		}
	}
}

func TestNoSuchTeam(t *testing.T) {
	x := giants(t)
	was := x.Copy()
	for _, n := range append(wrongs, 2, 3) {
		isNone(t, x, n)
		for _, by := range numbers {
			tells(t, "Gain", x.Gain(n, by), api.ErrRange)
			tells(t, "Sicken", x.Sicken(n, by), api.ErrRange)
		}
		// Whichever these are, they are of those that there are.
		for foe := range x.Foes(n) {
			is(t, "Lost of a foe", x.Lost(foe), false)
		}
	}
	is(t, "Same", x.Same(was), true)
}

func TestNoTeams(t *testing.T) {
	for _, x := range []*team.Teams{nil, new(team.Teams)} {
		want := api.ErrRange
		if x == nil {
			want = api.ErrArg
		}
		is(t, "Len", x.Len(), 0)
		is(t, "Seats", x.Seats(), 0)
		is(t, "Over", x.Over(), true)
		is(t, "Winner", x.Winner(), -1)
		for _, n := range append(wrongs, 0, 1) {
			isNone(t, x, n)
			is(t, "Of", x.Of(n), -1)
			is(t, "Mates", x.Mates(n, n), false)
			is(t, "Mates", x.Mates(n, 0), false)
			are(t, "Foes", foes(x, n))
			tells(t, "Gain", x.Gain(n, 1), want)
			tells(t, "Sicken", x.Sicken(n, 1), want)
		}
		c := x.Copy()
		is(t, "a copy of none", c == nil, x == nil)
		is(t, "Same", x.Same(c), true)
		is(t, "Same", x.Same(giants(t)), false)
		is(t, "Same", giants(t).Same(x), false)
	}
}

func TestNewRefused(t *testing.T) {
	for _, c := range []struct{ sides, life []int }{
		{nil, nil}, {nil, []int{1}}, {[]int{}, []int{}}, {[]int{}, []int{1}},
		{[]int{0}, nil}, {[]int{0}, []int{}},
		{[]int{0, 0, 0, 0, 0}, []int{1}}, {[]int{0, 1, 2, 3, 4}, []int{1, 1, 1, 1, 1}}, {[]int{0, 1, 2, 3, 0}, []int{1, 1, 1, 1}},
		{make([]int, 1000), []int{1}}, {[]int{0}, slices.Repeat([]int{1}, 1000)},
		{[]int{0, 1}, []int{1}}, {[]int{-1}, []int{1}}, {[]int{0, -1}, []int{1}}, {[]int{0, 2, 1}, []int{1, 1}}, {[]int{1, 2}, []int{1, 1}},
		{[]int{math.MinInt, 0}, []int{1}}, {[]int{0, math.MaxInt}, []int{1}},
		{[]int{0}, []int{1, 1}}, {[]int{1}, []int{1, 1}}, {[]int{0, 0, 2}, []int{1, 1, 1}}, {[]int{0, 1, 2, 2}, []int{1, 1, 1, 1}},
		{[]int{3, 2, 1}, []int{1, 1, 1, 1}},
	} {
		if x, e := team.New(c.sides, c.life); x != nil || e != api.ErrSetup {
			t.Errorf("New(%v, %v): %d", c.sides, c.life, e)
		}
	}
}

func TestLives(t *testing.T) {
	for _, n := range numbers {
		for place := range 3 {
			life := []int{1, 40, 999}
			life[place] = n
			x, e := team.New([]int{0, 1, 2}, life)
			if n >= 1 && n <= 999 {
				tells(t, "New", e, api.OK)
				shares(t, x, place, n, 0)
				is(t, "Lost", x.Lost(place), false)
				continue
			}
			tells(t, "New", e, api.ErrSetup)
			is(t, "no teams", x == nil, true)
		}
	}
}

// may tells whether New should take sides of so many teams: by its words, one behind the other.
func may(sides []int, teams int) bool {
	if len(sides) == 0 || len(sides) > 4 {
		return false
	}
	seats := make([]int, teams)
	for _, n := range sides {
		if n < 0 || n >= teams {
			return false
		}
		seats[n]++
	}
	return !slices.Contains(seats, 0)
}

// lists calls do with all lists of up to n of the numbers from least on to most.
func lists(n, least, most int, l []int, do func(l []int)) {
	do(l)
	if len(l) == n {
		return
	}
	for x := least; x <= most; x++ {
		lists(n, least, most, append(slices.Clone(l), x), do)
	}
}

func TestAllSides(t *testing.T) {
	lists(5, -1, 5, nil, func(sides []int) {
		for n := range 7 {
			life := slices.Repeat([]int{7}, n)
			x, e := team.New(sides, life)
			if !may(sides, n) {
				if x != nil || e != api.ErrSetup {
					t.Errorf("New(%v, %v): %d", sides, life, e)
				}
				continue
			}
			if e != api.OK || x.Len() != n || x.Seats() != len(sides) {
				t.Errorf("New(%v, %v): %d, %d teams, %d seats", sides, life, e, x.Len(), x.Seats())
			}
		}
	})
}

func TestGain(t *testing.T) {
	x := teams(t, []int{0, 1}, []int{40, 5})
	for _, step := range []struct{ n, life int }{
		{0, 40}, {-5, 35}, {1, 36}, {963, 999}, {1, 999}, {-999, 0}, {-1, -1}, {-998, -999}, {-1, -999}, {999, 0},
		{2000, 999}, {-1000, 0}, {-3, -3}, {5, 2}, {math.MinInt, -997}, {math.MaxInt, 2}, {math.MaxInt, 999},
	} {
		tells(t, "Gain", x.Gain(0, step.n), api.OK)
		shares(t, x, 0, step.life, 0)
		shares(t, x, 1, 5, 0)
	}
	// Those that come to nothing haven't lost by that.
	is(t, "Gain", x.Gain(1, -500), api.OK)
	shares(t, x, 1, -495, 0)
	is(t, "Lost", x.Lost(1), false)
	is(t, "Over", x.Over(), false)
}

func TestSicken(t *testing.T) {
	x := teams(t, []int{0, 1}, []int{40, 5})
	for _, step := range []struct{ n, poison int }{
		{0, 0}, {3, 3}, {-1, 2}, {-2, 0}, {1, 1}, {-9, 0}, {-1, 0}, {10, 10}, {989, 999}, {1, 999}, {-1, 998},
		{5000, 999}, {math.MinInt, 0}, {math.MinInt, 0}, {math.MaxInt, 999}, {math.MaxInt, 999}, {-998, 1}, {-1, 0},
	} {
		tells(t, "Sicken", x.Sicken(1, step.n), api.OK)
		shares(t, x, 1, 5, step.poison)
		shares(t, x, 0, 40, 0)
	}
	is(t, "Sicken", x.Sicken(1, 999), api.OK)
	is(t, "Lost", x.Lost(1), false)
}

// held is a sum within bounds: by floats, which don't wrap round.
func held(a, b int, low float64) int {
	by := min(max(float64(b), -999), 999)
	return int(min(max(float64(a)+by, low), 999))
}

func TestAllNumbers(t *testing.T) {
	for _, life := range []int{1, 2, 20, 500, 998, 999} {
		for _, a := range numbers {
			for _, b := range numbers {
				x := teams(t, []int{0, 1}, []int{life, life})
				x.Gain(1, a)
				x.Gain(1, b)
				x.Sicken(1, a)
				x.Sicken(1, b)
				shares(t, x, 1, held(held(life, a, -999), b, -999), held(held(0, a, 0), b, 0))
				shares(t, x, 0, life, 0)
			}
		}
	}
}

// One that has lost still has what it shares.
func TestGainOfTheLost(t *testing.T) {
	x := giants(t)
	is(t, "Lose", x.Lose(1), true)
	tells(t, "Gain", x.Gain(1, -4), api.OK)
	tells(t, "Sicken", x.Sicken(1, 3), api.OK)
	shares(t, x, 1, 26, 3)
	is(t, "Lost", x.Lost(1), true)
	are(t, "In", x.In(1), 2, 3)
	is(t, "Of", x.Of(2), 1)
	is(t, "Mates", x.Mates(2, 3), true)
	is(t, "Len", x.Len(), 2)
	is(t, "Seats", x.Seats(), 4)
}
