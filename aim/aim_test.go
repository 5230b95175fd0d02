package aim_test

import (
	"math"
	"slices"
	"testing"

	"hydra/aim"
	"hydra/api"
	"hydra/object"
	"hydra/team"
)

// The cards of table, by their places.
const (
	land = iota
	bear
	wall
	spell
	scheme
)

func table() []api.Card {
	return []api.Card{
		land:   {Kind: api.Land},
		bear:   {Kind: api.Creature, Cost: 2, Power: 2, Tough: 2},
		wall:   {Kind: api.Creature, Tough: 5, Keys: api.Haste | api.Flying, When: api.Dies, Terms: []api.Term{{Op: api.Draw, N: 1}}},
		spell:  {Kind: api.Spell, Cost: 1, Terms: []api.Term{{Op: api.Hurt, N: 2, On: api.Any}}},
		scheme: {Kind: api.Scheme, Terms: []api.Term{{Op: api.Draw, N: 1}}},
	}
}

var (
	words  = []int{api.Self, api.Any, api.Foe, api.Own, api.Side}
	zones  = []int{api.Library, api.InHand, api.Field, api.Stack, api.Grave, api.Exile, api.Command}
	wrongs = []int{-1, -2, 5, 6, 100, 256, math.MaxInt, math.MinInt}
)

// store is a store of some seats with objects: of each its card, owner and zone.
func store(t *testing.T, seats int, l ...[3]int) *object.Store {
	t.Helper()
	s, e := object.New(table(), seats)
	if e != api.OK {
		t.Fatal("New:", e)
	}
	for _, x := range l {
		if id, e := s.Add(x[0], x[1], x[2]); id != s.Len() || e != api.OK {
			t.Fatalf("Add(%v) = %d, %d", x, id, e)
		}
	}
	return s
}

// teams is teams of seats, each of life 20.
func teams(t *testing.T, sides ...int) *team.Teams {
	t.Helper()
	x, e := team.New(sides, slices.Repeat([]int{20}, slices.Max(sides)+1))
	if e != api.OK {
		t.Fatal("New:", e)
	}
	return x
}

// move moves an object, which there should be.
func move(t *testing.T, s *object.Store, id, zone int) {
	t.Helper()
	if e := s.Move(id, zone, false); e != api.OK {
		t.Fatalf("Move(%d, %d) = %d", id, zone, e)
	}
}

// are asks what may be aimed at: whether All, Check and First tell just that.
func are(t *testing.T, s *object.Store, x *team.Teams, seat, on int, want ...int) {
	t.Helper()
	if got := slices.Collect(aim.All(s, x, seat, on)); !slices.Equal(got, want) {
		t.Errorf("All(%d, %d) = %v; want %v", seat, on, got, want)
	}
	for at := -2; at <= s.Len()+5; at++ {
		tells(t, s, x, seat, on, at, slices.Contains(want, at))
	}
	for _, at := range wrongs {
		tells(t, s, x, seat, on, at, slices.Contains(want, at))
	}
	first := 0
	if len(want) > 0 {
		first = want[0]
	}
	if at, ok := aim.First(s, x, seat, on); at != first || ok != (len(want) > 0) {
		t.Errorf("First(%d, %d) = %d, %t; want %d", seat, on, at, ok, first)
	}
}

// tells asks whether Check tells that something may be aimed at, or may not.
func tells(t *testing.T, s *object.Store, x *team.Teams, seat, on, at int, may bool) {
	t.Helper()
	want := api.ErrTarget
	if may {
		want = api.OK
	}
	if e := aim.Check(s, x, seat, on, at); e != want {
		t.Errorf("Check(%d, %d, %d) = %d; want %d", seat, on, at, e, want)
	}
}

// isWrong asks whether something is told to be no question, and nothing to answer it.
func isWrong(t *testing.T, s *object.Store, x *team.Teams, seat, on int) {
	t.Helper()
	for at := -1; at < 8; at++ {
		if e := aim.Check(s, x, seat, on, at); e != api.ErrArg {
			t.Errorf("Check(%d, %d, %d) = %d; want %d", seat, on, at, e, api.ErrArg)
		}
	}
	if l := slices.Collect(aim.All(s, x, seat, on)); len(l) > 0 {
		t.Errorf("All(%d, %d) = %v; want none", seat, on, l)
	}
	if at, ok := aim.First(s, x, seat, on); at != 0 || ok {
		t.Errorf("First(%d, %d) = %d, %t; want none", seat, on, at, ok)
	}
}

// giants is two heads against two, with two Creatures each, and one that is in a hand.
func giants(t *testing.T) (*object.Store, *team.Teams) {
	t.Helper()
	s := store(t, 4, [3]int{bear, 2, api.Field}, [3]int{land, 0, api.Field}, [3]int{wall, 0, api.Field},
		[3]int{bear, 1, api.InHand}, [3]int{bear, 3, api.Field}, [3]int{bear, 1, api.Field})
	return s, teams(t, 0, 0, 1, 1)
}

func TestGiants(t *testing.T) {
	s, x := giants(t)
	for seat, want := range [][2][]int{{{1, 5}, {3, 6}}, {{1, 5}, {3, 6}}, {{3, 6}, {1, 5}}, {{3, 6}, {1, 5}}} {
		are(t, s, x, seat, api.Self, 0)
		are(t, s, x, seat, api.Any, 1, 3, 5, 6)
		are(t, s, x, seat, api.Foe, want[0]...)
		are(t, s, x, seat, api.Own, want[1]...)
		are(t, s, x, seat, api.Side, 1-seat/2)
	}
}

// The teams' seats need not stand side by side.
func TestTeamsByTurns(t *testing.T) {
	s, _ := giants(t)
	x := teams(t, 0, 1, 0, 1)
	are(t, s, x, 0, api.Own, 1, 3)
	are(t, s, x, 0, api.Foe, 5, 6)
	are(t, s, x, 3, api.Own, 5, 6)
	are(t, s, x, 3, api.Foe, 1, 3)
	are(t, s, x, 2, api.Side, 1)
	are(t, s, x, 1, api.Side, 0)
}

// One against three.
func TestOneAgainstAll(t *testing.T) {
	s, _ := giants(t)
	x := teams(t, 1, 0, 0, 0)
	are(t, s, x, 0, api.Own, 3)
	are(t, s, x, 0, api.Foe, 1, 5, 6)
	are(t, s, x, 0, api.Side, 0)
	are(t, s, x, 2, api.Own, 1, 5, 6)
	are(t, s, x, 2, api.Foe, 3)
	are(t, s, x, 2, api.Side, 1)
}

// Those of one team have no foes, and there is no other side.
func TestOneTeam(t *testing.T) {
	s, _ := giants(t)
	x := teams(t, 0, 0, 0, 0)
	are(t, s, x, 1, api.Any, 1, 3, 5, 6)
	are(t, s, x, 1, api.Own, 1, 3, 5, 6)
	are(t, s, x, 1, api.Foe)
	are(t, s, x, 1, api.Side)
	are(t, s, x, 1, api.Self, 0)
}

func TestOneSeat(t *testing.T) {
	s, x := store(t, 1, [3]int{bear, 0, api.Field}), teams(t, 0)
	for on, want := range [][]int{{0}, {1}, {}, {1}, {}} {
		are(t, s, x, 0, on, want...)
	}
	isWrong(t, s, x, 1, api.Self)
}

// The chapter's example.
func TestNoCreature(t *testing.T) {
	x := teams(t, 0, 1)
	for _, s := range []*object.Store{store(t, 2), store(t, 2, [3]int{land, 0, api.Field}, [3]int{bear, 1, api.InHand})} {
		for on, want := range [][]int{{0}, {}, {}, {}, {1}} {
			are(t, s, x, 0, on, want...)
		}
	}
}

// Just Creatures, and just on the Field.
func TestKindsAndZones(t *testing.T) {
	x := teams(t, 0, 1)
	for n := range table() {
		for _, zone := range zones {
			s := store(t, 2, [3]int{n, 1, zone})
			var l []int
			if zone == api.Field && (n == bear || n == wall) {
				l = []int{1}
			}
			are(t, s, x, 0, api.Any, l...)
			are(t, s, x, 0, api.Foe, l...)
			are(t, s, x, 0, api.Own)
			are(t, s, x, 1, api.Any, l...)
			are(t, s, x, 1, api.Foe)
			are(t, s, x, 1, api.Own, l...)
		}
	}
}

// However a Creature is, it may be aimed at: tapped, sick, attacking, blocking, to die.
func TestHoweverItIs(t *testing.T) {
	x := teams(t, 0, 1)
	for _, so := range []api.Obj{
		{Tapped: true}, {Sick: true}, {Attacks: true}, {Block: 7}, {Hurt: 2}, {Hurt: 999}, {Count: -5}, {Boost: -5}, {Count: 3, Boost: 3},
		{Tapped: true, Sick: true, Attacks: true, Block: 1, Hurt: 2, Count: -2, Boost: -2},
	} {
		s := store(t, 2, [3]int{bear, 0, api.Field})
		so.Id, so.Card, so.Owner, so.Zone = 1, bear, 0, api.Field
		if e := s.Set(so); e != api.OK {
			t.Fatal("Set:", e)
		}
		are(t, s, x, 0, api.Any, 1)
		are(t, s, x, 0, api.Own, 1)
		are(t, s, x, 1, api.Foe, 1)
	}
}

func TestSides(t *testing.T) {
	s, x := store(t, 4), teams(t, 2, 0, 3, 1)
	are(t, s, x, 0, api.Side, 0, 1, 3)
	are(t, s, x, 1, api.Side, 1, 2, 3)
	are(t, s, x, 2, api.Side, 0, 1, 2)
	are(t, s, x, 3, api.Side, 0, 2, 3)
	x.Lose(0)
	are(t, s, x, 0, api.Side, 1, 3)
	are(t, s, x, 3, api.Side, 2, 3)
	// One that has lost may still aim.
	are(t, s, x, 1, api.Side, 1, 2, 3)
	x.Lose(3)
	are(t, s, x, 0, api.Side, 1)
	are(t, s, x, 2, api.Side, 1, 2)
	are(t, s, x, 3, api.Side, 2)
	x.Lose(1)
	are(t, s, x, 0, api.Side)
	are(t, s, x, 1, api.Side, 2)
	x.Lose(2)
	for seat := range 4 {
		are(t, s, x, seat, api.Side)
		are(t, s, x, seat, api.Self, 0)
	}
}

// A team's life and poison ask nothing: just whether it has lost. Its Creatures stay what they are.
func TestTeamsThatLost(t *testing.T) {
	s, x := giants(t)
	x.Gain(1, -500)
	x.Sicken(1, 500)
	are(t, s, x, 0, api.Side, 1)
	x.Lose(1)
	are(t, s, x, 0, api.Side)
	are(t, s, x, 0, api.Any, 1, 3, 5, 6)
	are(t, s, x, 0, api.Foe, 1, 5)
	are(t, s, x, 2, api.Own, 1, 5)
	are(t, s, x, 2, api.Foe, 3, 6)
	are(t, s, x, 2, api.Side, 0)
}

func TestWrong(t *testing.T) {
	s, x := giants(t)
	ws, wx := s.Copy(), x.Copy()
	for _, on := range wrongs {
		for seat := range 4 {
			isWrong(t, s, x, seat, on)
		}
	}
	for _, seat := range append(wrongs, 4) {
		for _, on := range append(wrongs, words...) {
			isWrong(t, s, x, seat, on)
		}
	}
	if !s.Same(ws) || !x.Same(wx) {
		t.Error("what was asked of has changed")
	}
}

func TestNil(t *testing.T) {
	s, x := giants(t)
	for _, seat := range append(wrongs, 0, 1, 2, 3, 4) {
		for _, on := range append(wrongs, words...) {
			isWrong(t, nil, x, seat, on)
			isWrong(t, s, nil, seat, on)
			isWrong(t, nil, nil, seat, on)
			isWrong(t, s, new(team.Teams), seat, on)
		}
	}
	for on, want := range [][]int{{0}, {}, {}, {}, {1}} {
		are(t, new(object.Store), x, 0, on, want...)
	}
}

// The seats that there are, are those of the teams, whatever the store's are.
func TestOtherSeats(t *testing.T) {
	s := store(t, 4, [3]int{bear, 0, api.Field}, [3]int{bear, 3, api.Field})
	x := teams(t, 0, 1)
	are(t, s, x, 1, api.Any, 1, 2)
	are(t, s, x, 1, api.Foe, 1, 2)
	are(t, s, x, 1, api.Own)
	are(t, s, x, 0, api.Own, 1)
	for _, on := range words {
		isWrong(t, s, x, 2, on)
		isWrong(t, s, x, 3, on)
	}
	s, x = store(t, 1, [3]int{bear, 0, api.Field}), teams(t, 1, 0, 1, 0)
	are(t, s, x, 2, api.Own, 1)
	are(t, s, x, 3, api.Foe, 1)
	are(t, s, x, 3, api.Side, 1)
}
