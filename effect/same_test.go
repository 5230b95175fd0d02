package effect_test

import (
	"testing"

	"hydra/api"
	"hydra/effect"
)

// changes are what lets a board be another one.
func changes() []func(b *effect.Board) {
	return []func(b *effect.Board){
		func(b *effect.Board) { b.Do(0, api.Term{Op: api.Hurt, N: 1, On: api.Any}, 1) },
		func(b *effect.Board) { b.Do(0, api.Term{Op: api.Hurt, N: 1, On: api.Foe}, 2) },
		func(b *effect.Board) { b.Do(0, api.Term{Op: api.Kill, On: api.Any}, 1) },
		func(b *effect.Board) { b.Do(0, api.Term{Op: api.Heal, N: 1}, 0) },
		func(b *effect.Board) { b.Do(2, api.Term{Op: api.Heal, N: 1}, 0) },
		func(b *effect.Board) { b.Sicken(1, 1) },
		func(b *effect.Board) { b.Lose(1) },
		func(b *effect.Board) { b.Add(land, 0, api.Exile) },
		func(b *effect.Board) { b.Lay(0, api.Library, []int{6, 5}) },
		func(b *effect.Board) { b.Draw(0, 1) },
		func(b *effect.Board) { b.Draw(1, 1) }, // it is dry, and so are the next ones
		func(b *effect.Board) { b.Draw(2, 1) },
		func(b *effect.Board) { b.Draw(3, 2); b.Move(13, api.Library, false) },
	}
}

func TestCopy(t *testing.T) {
	for i, change := range changes() {
		b := giants(t)
		b.Do(0, api.Term{Op: api.Swell, N: 3, On: api.Own}, 1)
		was := b.Copy()
		is(t, "Same of a copy", b.Same(was) && was.Same(b), true)
		change(b)
		if b.Same(was) || was.Same(b) {
			t.Errorf("change %d: the copy has changed, too", i)
		}
		is(t, "Boost", get(t, was, 1).Boost, 3)
		is(t, "Same of a copy", b.Copy().Same(b), true)
		// The other way round: a copy's changes are its own.
		now := b.Copy()
		change(was)
		is(t, "Same when both changed", was.Same(b), true)
		is(t, "Same of what is", now.Same(b), true)
	}
}

func TestCopyKeepsDry(t *testing.T) {
	b := giants(t)
	b.Draw(1, 1)
	c := b.Copy()
	is(t, "Dry(1)", c.Dry(1), true)
	is(t, "Dry(0)", c.Dry(0), false)
	b.Wet()
	is(t, "Dry(1)", c.Dry(1), true)
	c.Draw(2, 1)
	is(t, "Dry(2)", b.Dry(2), false)
}

func TestSame(t *testing.T) {
	all := []*effect.Board{
		nil, new(effect.Board), giants(t), board(t, []int{0, 0, 1, 1}), board(t, []int{0, 1, 0, 1}), board(t, []int{0, 1}), board(t, []int{0, 0}),
		{Store: giants(t).Store}, {Teams: giants(t).Teams},
	}
	for _, change := range changes() {
		b := giants(t)
		change(b)
		all = append(all, b)
	}
	for i, a := range all {
		for j, b := range all {
			if same := a.Same(b); same != (i == j) {
				t.Errorf("Same of %d and %d = %t", i, j, same)
			}
		}
	}
}

// What was handed in isn't what is kept, and what is done on one board isn't done on another one.
func TestOwnMemory(t *testing.T) {
	s, x := store(t, 2, [3]int{bear, 0, api.Field}, [3]int{land, 0, api.Library}), teams(t, 0, 1)
	ws, wx := s.Copy(), x.Copy()
	a, _ := effect.New(s, x)
	b, _ := effect.New(s, x)
	a.Do(1, api.Term{Op: api.Kill, On: api.Foe}, 1)
	a.Do(1, api.Term{Op: api.Drain, N: 5}, 0)
	a.Draw(0, 2)
	is(t, "the store", s.Same(ws), true)
	is(t, "the teams", x.Same(wx), true)
	is(t, "the other board's store", b.Store.Same(ws), true)
	is(t, "the other board's teams", b.Teams.Same(wx), true)
	is(t, "Dry", b.Dry(0), false)
	s.Move(1, api.Exile, false)
	x.Lose(0)
	is(t, "the other board's store", b.Store.Same(ws), true)
	is(t, "Lost", b.Lost(0), false)
	is(t, "the zone", get(t, a, 1).Zone, api.Grave)
}
