package team_test

import (
	"slices"
	"testing"

	"hydra/team"
)

func TestLose(t *testing.T) {
	x := four(t)
	for _, step := range []struct {
		team   int
		had    bool
		over   bool
		winner int
	}{{1, true, false, -1}, {1, false, false, -1}, {3, true, false, -1}, {0, true, true, 2}, {0, false, true, 2}, {2, true, true, -1}, {2, false, true, -1}} {
		is(t, "Lose", x.Lose(step.team), step.had)
		is(t, "Lost", x.Lost(step.team), true)
		is(t, "Over", x.Over(), step.over)
		is(t, "Winner", x.Winner(), step.winner)
	}
	for n := range 4 {
		is(t, "Life", x.Life(n), 20+n)
	}
}

func TestNext(t *testing.T) {
	x := four(t)
	for n, want := range []int{1, 2, 3, 0} {
		is(t, "Next", x.Next(n), want)
	}
	x.Lose(2)
	for n, want := range []int{1, 3, 3, 0} {
		is(t, "Next with 2 lost", x.Next(n), want)
	}
	x.Lose(0)
	for n, want := range []int{1, 3, 3, 1} {
		is(t, "Next with 0 and 2 lost", x.Next(n), want)
	}
	x.Lose(3)
	for n := range 4 {
		is(t, "Next with just 1 left", x.Next(n), 1)
	}
	x.Lose(1)
	for n := range 4 {
		is(t, "Next with none left", x.Next(n), n)
	}
}

func TestFoes(t *testing.T) {
	x := four(t)
	are(t, "Foes(0)", foes(x, 0), 1, 2, 3)
	are(t, "Foes(2)", foes(x, 2), 0, 1, 3)
	x.Lose(1)
	are(t, "Foes(0)", foes(x, 0), 2, 3)
	are(t, "Foes(3)", foes(x, 3), 0, 2)
	// One that has lost has foes.
	are(t, "Foes(1)", foes(x, 1), 0, 2, 3)
}

// What is told ends as soon as no more is asked for, and can be gone over again.
func TestFoesEnd(t *testing.T) {
	x := four(t)
	l := x.Foes(1)
	for most := 1; most <= 3; most++ {
		var got []int
		l(func(n int) bool {
			got = append(got, n)
			return len(got) < most
		})
		are(t, "Foes", got, []int{0, 2, 3}[:most]...)
	}
}

// Those that are told may lose by that.
func TestFoesLose(t *testing.T) {
	x := four(t)
	var l []int
	for n := range x.Foes(1) {
		l = append(l, n)
		is(t, "Lose", x.Lose(n), true)
	}
	are(t, "Foes", l, 0, 2, 3)
	is(t, "Winner", x.Winner(), 1)
	are(t, "Foes", foes(x, 1))
}

// A state is told by words of its own: who has lost stands in a list.
type state struct {
	sides []int
	lost  []bool
}

// left is the teams that haven't lost, without one.
func (s state) left(without int) []int {
	var l []int
	for n, lost := range s.lost {
		if !lost && n != without {
			l = append(l, n)
		}
	}
	return l
}

// next is who comes next: of the others that are left the least one above, or else the least one.
func (s state) next(n int) int {
	l := s.left(n)
	if len(l) == 0 {
		return n
	}
	if i := slices.IndexFunc(l, func(x int) bool { return x > n }); i >= 0 {
		return l[i]
	}
	return l[0]
}

func (s state) seats(n int) []int {
	var l []int
	for seat, x := range s.sides {
		if x == n {
			l = append(l, seat)
		}
	}
	return l
}

// isState asks all that may be asked of a state.
func isState(t *testing.T, x *team.Teams, s state) {
	t.Helper()
	is(t, "Len", x.Len(), len(s.lost))
	is(t, "Seats", x.Seats(), len(s.sides))
	is(t, "Over", x.Over(), len(s.left(-1)) < 2)
	winner := -1
	if l := s.left(-1); len(l) == 1 {
		winner = l[0]
	}
	is(t, "Winner", x.Winner(), winner)
	for n := range s.lost {
		are(t, "In", x.In(n), s.seats(n)...)
		are(t, "Foes", foes(x, n), s.left(n)...)
		is(t, "Next", x.Next(n), s.next(n))
		is(t, "Lost", x.Lost(n), s.lost[n])
	}
	for a, n := range s.sides {
		is(t, "Of", x.Of(a), n)
		for b := range s.sides {
			is(t, "Mates", x.Mates(a, b), n == s.sides[b])
		}
	}
	if t.Failed() {
		t.Fatal(s)
	}
}

// All sides, and all ways for teams to have lost.
func TestAllStates(t *testing.T) {
	lists(4, 0, 3, nil, func(sides []int) {
		for n := range 5 {
			if !may(sides, n) {
				continue
			}
			for who := range 1 << n {
				x := teams(t, sides, slices.Repeat([]int{5}, n))
				s := state{sides, make([]bool, n)}
				for i := range n {
					if s.lost[i] = who>>i&1 == 1; s.lost[i] {
						is(t, "Lose", x.Lose(i), true)
					}
				}
				isState(t, x, s)
			}
		}
	})
}

// Four teams, in whichever order, and however often, they lose.
func TestAllWaysToLose(t *testing.T) {
	lists(5, 0, 3, nil, func(l []int) {
		x := four(t)
		s := state{[]int{0, 1, 2, 3}, make([]bool, 4)}
		for _, n := range l {
			is(t, "Lose", x.Lose(n), !s.lost[n])
			s.lost[n] = true
		}
		isState(t, x, s)
	})
}
