package check_test

import (
	"slices"
	"testing"

	"hydra/api"
	"hydra/check"
	"hydra/effect"
	"hydra/stack"
	"hydra/trig"
)

// dies tells by layer 8's words whether an object is to die.
func dies(o api.Obj) bool {
	c := table()[o.Card]
	tough := c.Tough
	for _, n := range []int{o.Count, o.Boost} {
		tough = min(max(tough+n, 0), 999)
	}
	return c.Kind == api.Creature && o.Zone == api.Field && (tough == 0 || tough <= o.Hurt)
}

// loses tells by the words of the chapter whether a team is to lose, and hasn't.
func loses(b *effect.Board, n int) bool {
	dry := false
	for seat := range b.Store.Seats() {
		dry = dry || b.Of(seat) == n && b.Dry(seat)
	}
	return !b.Lost(n) && (b.Life(n) <= 0 || b.Poison(n) >= 10 || dry)
}

// round does a round by the words of the chapter: who died, and which teams lost.
func round(b *effect.Board, s *stack.Stack, active int) (dead, lost []int) {
	for _, id := range b.Store.In(0, api.Field) {
		if o, _ := b.Get(id); dies(o) {
			dead = append(dead, id)
		}
	}
	for _, id := range dead {
		b.Move(id, api.Grave, false)
	}
	trig.Fire(b, s, active, api.Dies, dead...)
	for n := range b.Teams.Len() {
		if loses(b, n) {
			lost = append(lost, n)
		}
	}
	for _, n := range lost {
		b.Lose(n)
	}
	b.Wet()
	return dead, lost
}

// words is what checks do, by the words of the chapter: rounds, till one does nothing, at most 60.
func words(b *effect.Board, s *stack.Stack, active int) check.Report {
	var r check.Report
	for range 60 {
		was := b.Copy()
		dead, lost := round(b, s, active)
		if b.Same(was) {
			break
		}
		r.Dead, r.Lost, r.Rounds = append(r.Dead, dead...), append(r.Lost, lost...), r.Rounds+1
	}
	return r
}

// crowd is a board where each seat has one of each card on the Field, the last seat first.
func crowd(t *testing.T, sides []int) *effect.Board {
	t.Helper()
	var l [][3]int
	for n := range table() {
		for seat := len(sides) - 1; seat >= 0; seat-- {
			l = append(l, [3]int{n, seat, api.Field})
		}
	}
	return board(t, sides, l...)
}

// spoil lets a board be one on which something may follow: a number tells for how many Creatures, and for which teams.
func spoil(t *testing.T, b *effect.Board, n int) {
	t.Helper()
	rare := n % 11
	for id := 1; id <= b.Store.Len(); id++ {
		if (n*5+id*7)%11 < rare {
			set(t, b, func(o *api.Obj) { o.Hurt, o.Count, o.Boost = (n*id)%4, (n+id)%4-1, (n*7+id*3)%4-1 }, id)
		}
	}
	n /= 11
	for team := range b.Teams.Len() {
		way := n % 8
		n /= 8
		b.Gain(team, []int{-20, -21, -19, -19, 0, 0, 0, 0}[way])
		b.Sicken(team, []int{0, 9, 10, 11, 9, 9, 0, 0}[way])
		if way == 5 || way == 6 {
			b.Draw(b.Teams.In(team)[n%len(b.Teams.In(team))], 1)
		}
		if way%3 == 0 && n%2 == 0 {
			b.Lose(team)
		}
	}
}

// Boards of all kinds, of several sides, each with several active teams and stacks.
func TestAllBoards(t *testing.T) {
	for _, sides := range [][]int{{0}, {0, 1}, {1, 0}, {0, 0, 1, 1}, {1, 0, 1, 0}, {0, 1, 1, 1}, {2, 0, 1}, {3, 1, 0, 2}} {
		was := crowd(t, sides)
		for n := range 11 * 64 {
			b := was.Copy()
			spoil(t, b, n)
			asked(t, b, n)
		}
	}
}

func asked(t *testing.T, b *effect.Board, n int) {
	t.Helper()
	for active := -1; active <= b.Teams.Len(); active++ {
		now, then := b.Copy(), b.Copy()
		first := slices.Repeat([]stack.Entry{{At: 4}}, (n+active+1)%9)
		s, x := stack.New(first...), stack.New(first...)
		for team := range b.Teams.Len() {
			is(t, "Doomed", check.Doomed(now, team), loses(then, team))
		}
		want := words(then, x, active)
		is(t, "Stable", check.Stable(now), want.Rounds == 0)
		is(t, "asking changes nothing", now.Same(b), true)
		told(t, check.Run(now, s, active), want)
		is(t, "the board is what it is to be", now.Same(then), true)
		is(t, "the stack is what it is to be", s.Same(x), true)
		settled(t, now, s, active)
	}
	if t.Failed() {
		t.Fatal("board", n)
	}
}
