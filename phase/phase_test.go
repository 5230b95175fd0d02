package phase_test

import (
	"math"
	"slices"
	"testing"

	"hydra/api"
	"hydra/effect"
	"hydra/object"
	"hydra/phase"
	"hydra/team"
)

// The cards of table, by their places.
const (
	land = iota
	bear
	hare
	bolt
	scheme
)

func table() []api.Card {
	return []api.Card{
		land:   {Kind: api.Land},
		bear:   {Kind: api.Creature, Cost: 2, Power: 2, Tough: 2},
		hare:   {Kind: api.Creature, Power: 1, Tough: 1, Keys: api.Haste, When: api.Attacks, Terms: []api.Term{{Op: api.Heal, N: 1}}},
		bolt:   {Kind: api.Spell, Cost: 1, Terms: []api.Term{{Op: api.Hurt, N: 2, On: api.Any}}},
		scheme: {Kind: api.Scheme, Terms: []api.Term{{Op: api.Drain, N: 4}}},
	}
}

var zones = []int{api.Library, api.InHand, api.Field, api.Stack, api.Grave, api.Exile, api.Command}

// board is a board of seats of such teams, each of life 20, with objects: of each its card, owner and zone.
func board(t *testing.T, sides []int, l ...[3]int) *effect.Board {
	t.Helper()
	s, e := object.New(table(), len(sides))
	if e != api.OK {
		t.Fatal("object.New:", e)
	}
	x, e := team.New(sides, slices.Repeat([]int{20}, slices.Max(sides)+1))
	if e != api.OK {
		t.Fatal("team.New:", e)
	}
	b, e := effect.New(s, x)
	if e != api.OK {
		t.Fatal("effect.New:", e)
	}
	for _, x := range l {
		if _, e := b.Add(x[0], x[1], x[2]); e != api.OK {
			t.Fatalf("Add(%v): %d", x, e)
		}
	}
	return b
}

// giants is two heads against two, with nothing on the board.
func giants(t *testing.T) *effect.Board {
	t.Helper()
	return board(t, []int{0, 0, 1, 1})
}

// set changes what objects are, whatever their zone.
func set(t *testing.T, b *effect.Board, change func(o *api.Obj), ids ...int) {
	t.Helper()
	for _, id := range ids {
		o, e := b.Get(id)
		if e != api.OK {
			t.Fatalf("Get(%d): %d", id, e)
		}
		change(&o)
		if e := b.Set(o); e != api.OK {
			t.Fatalf("Set(%v): %d", o, e)
		}
	}
}

func is[T comparable](t *testing.T, what string, got, want T) {
	t.Helper()
	if got != want {
		t.Errorf("%s = %v; want %v", what, got, want)
	}
}

// at asks whose turn it is, its number, and its phase.
func at(t *testing.T, y *phase.Turn, team, no, phase int) {
	t.Helper()
	is(t, "the turn", [3]int{y.Team, y.No, y.Phase}, [3]int{team, no, phase})
}

// laid asks who laid a land: just these seats.
func laid(t *testing.T, y *phase.Turn, seats ...int) {
	t.Helper()
	for seat := -2; seat < 7; seat++ {
		is(t, "Laid", y.Laid(seat), slices.Contains(seats, seat))
	}
}

// odd is numbers that are out of all ranges, or nearly so.
func odd() []int { return []int{math.MinInt, -7, -1, 4, 5, 9, 64, math.MaxInt} }

func TestNumbers(t *testing.T) {
	l := []int{phase.Wake, phase.Draw, phase.First, phase.Strike, phase.Shield, phase.Blow, phase.Second, phase.End}
	is(t, "the phases are counted from 1 to 8", slices.Equal(l, []int{1, 2, 3, 4, 5, 6, 7, 8}), true)
}

func TestName(t *testing.T) {
	for n, want := range []string{"", "Wake", "Draw", "First", "Strike", "Shield", "Blow", "Second", "End", "", ""} {
		is(t, "Name", phase.Name(n), want)
	}
	for _, n := range []int{math.MinInt, -9, -8, -1, 10, 16, 256 + 1, 1<<32 + 1, math.MaxInt} {
		is(t, "Name", phase.Name(n), "")
	}
}

// Whatever number is told, the turn is that team's.
func TestNew(t *testing.T) {
	for _, n := range append(odd(), 0, 1, 2, 3) {
		y := phase.New(n)
		at(t, y, n, 1, phase.Wake)
		laid(t, y)
	}
	a, b := phase.New(1), phase.New(1)
	is(t, "Same", a.Same(b), true)
	a.Team, a.No, a.Phase = 0, 2, phase.End
	a.Lay(3)
	at(t, b, 1, 1, phase.Wake)
	laid(t, b)
}

// The chapter's example, and on from there.
func TestEightTimesNext(t *testing.T) {
	b := giants(t)
	y := phase.New(0)
	for n := range 8 {
		at(t, y, 0, 1, n+1)
		y.Next(b)
	}
	at(t, y, 1, 2, phase.Wake)
	for n := range 8 {
		at(t, y, 1, 2, n+1)
		y.Next(b)
	}
	at(t, y, 0, 3, phase.Wake)
}

// after is a turn behind so many that are whole.
func after(b *effect.Board, y *phase.Turn, turns int) *phase.Turn {
	for range 8 * turns {
		y.Next(b)
	}
	return y
}

// The next team is that of layer 9: round and round, without those that have lost.
func TestWhoIsNext(t *testing.T) {
	for _, c := range []struct{ sides, lost, turns []int }{
		{[]int{0}, nil, []int{0, 0, 0}},
		{[]int{0, 1}, nil, []int{0, 1, 0, 1}},
		{[]int{1, 0}, nil, []int{1, 0, 1}},
		{[]int{0, 1, 1, 1}, nil, []int{0, 1, 0}},
		{[]int{3, 1, 0, 2}, nil, []int{2, 3, 0, 1, 2}},
		{[]int{0, 1, 2, 3}, []int{1}, []int{0, 2, 3, 0}},
		{[]int{0, 1, 2, 3}, []int{0, 3}, []int{1, 2, 1}},
		{[]int{0, 1, 2}, []int{0}, []int{0, 1, 2, 1}},
		{[]int{0, 1, 2}, []int{1, 2}, []int{1, 0, 0}},
		{[]int{0, 0, 1, 1}, []int{1}, []int{0, 0, 0}},
		{[]int{0, 0, 1, 1}, []int{0, 1}, []int{1, 1}},
		{[]int{0, 1}, nil, []int{2, -1, -1}},
		{[]int{0, 1}, nil, []int{math.MaxInt, -1}},
		{[]int{0, 1}, nil, []int{math.MinInt, -1}},
	} {
		b := board(t, c.sides)
		for _, n := range c.lost {
			b.Lose(n)
		}
		y := phase.New(c.turns[0])
		for n, team := range c.turns {
			at(t, y, team, n+1, phase.Wake)
			after(b, y, 1)
		}
		if t.Failed() {
			t.Fatal(c)
		}
	}
}

// A team that loses in its own turn goes on with it.
func TestLosesOnTheWay(t *testing.T) {
	b := board(t, []int{0, 1, 2})
	y := phase.New(0)
	y.Next(b)
	b.Lose(0)
	b.Lose(1)
	for n := phase.First; n <= phase.End; n++ {
		y.Next(b)
		at(t, y, 0, 1, n)
	}
	y.Next(b)
	at(t, y, 2, 2, phase.Wake)
}

func TestMain(t *testing.T) {
	for _, n := range append(odd(), 0, 1, 2, 3, 6, 7, 8, 1<<32+3) {
		y := phase.New(0)
		y.Phase = n
		is(t, "Main", y.Main(), n == 3 || n == 7)
		at(t, y, 0, 1, n)
	}
}

func TestMay(t *testing.T) {
	for _, sides := range [][]int{{0}, {0, 1}, {0, 0, 1, 1}, {1, 0, 1, 0}, {0, 1, 1, 1}, {2, 0, 1}, {3, 1, 0, 2}} {
		b := board(t, sides)
		was := b.Copy()
		for _, team := range append(odd(), 0, 1, 2, 3) {
			for _, seat := range append(odd(), 0, 1, 2, 3) {
				y := phase.New(team)
				want := seat >= 0 && seat < len(sides) && sides[seat] == team
				is(t, "May", y.May(b, seat), want)
				// It hangs on nothing but the team.
				y.Phase, y.No = phase.Shield, 6
				y.Lay(seat)
				is(t, "May", y.May(b, seat), want)
				lost := b.Copy()
				lost.Lose(team)
				is(t, "May of one that has lost", y.May(lost, seat), want)
			}
		}
		is(t, "the board is what it was", b.Same(was), true)
	}
}

// Each seat lays one, whichever others do.
func TestLay(t *testing.T) {
	for _, order := range [][]int{{0, 1, 2, 3}, {3, 2, 1, 0}, {2, 0}, {1}} {
		y := phase.New(0)
		for n, seat := range order {
			laid(t, y, order[:n]...)
			is(t, "Lay", y.Lay(seat), api.OK)
			laid(t, y, order[:n+1]...)
			for _, twice := range order[:n+1] {
				is(t, "Lay, twice", y.Lay(twice), api.ErrLand)
			}
			laid(t, y, order[:n+1]...)
		}
		at(t, y, 0, 1, phase.Wake)
	}
}

func TestLayOutOfRange(t *testing.T) {
	for _, seat := range append(odd(), 1<<32, 1<<32+1) {
		y := phase.New(0)
		for range 2 {
			is(t, "Lay", y.Lay(seat), api.ErrRange)
			is(t, "Same as it was", y.Same(phase.New(0)), true)
		}
		for seat := range 4 {
			y.Lay(seat)
		}
		is(t, "Lay", y.Lay(seat), api.ErrRange)
		laid(t, y, 0, 1, 2, 3)
	}
}

// What is laid stays so till the turn ends, whichever its team is; in the next one all may again.
func TestLaidInThisTurn(t *testing.T) {
	for in := phase.Wake; in <= phase.End; in++ {
		b := giants(t)
		y := phase.New(0)
		for range in - phase.Wake {
			y.Next(b)
		}
		y.Lay(1)
		y.Lay(2)
		for range phase.End - in + 1 {
			laid(t, y, 1, 2)
			is(t, "Lay", y.Lay(1), api.ErrLand)
			y.Begin(b)
			laid(t, y, 1, 2)
			y.Next(b)
		}
		laid(t, y)
		is(t, "Lay", y.Lay(1), api.OK)
		laid(t, y, 1)
	}
	// Also if it is the same team's turn again.
	b := board(t, []int{0})
	y := phase.New(0)
	y.Lay(0)
	after(b, y, 1)
	at(t, y, 0, 2, phase.Wake)
	is(t, "Lay", y.Lay(0), api.OK)
}
