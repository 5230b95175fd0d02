package effect_test

import (
	"slices"
	"testing"

	"hydra/api"
	"hydra/effect"
)

// Each aimed term at what the card is aimed at, others at 0.
func TestAllAims(t *testing.T) {
	b := giants(t)
	want := b.Copy()
	set(t, want, 2, func(o *api.Obj) { o.Hurt = 2 })
	want.Gain(0, 3)
	want.Gain(1, -1)
	want.Move(5, api.InHand, false)
	n := b.All(0, 2, api.Term{Op: api.Heal, N: 3}, api.Term{Op: api.Hurt, N: 2, On: api.Foe}, api.Term{Op: api.Drain, N: 1}, api.Term{Op: api.Draw, N: 1})
	is(t, "All", n, 4)
	is(t, "Same", b.Same(want), true)
	// Whatever it is aimed at, what is aimed at Self is done at 0.
	for _, at := range append(wrongs, 0, 1, 2, 3, 4, 5) {
		b, want := giants(t), giants(t)
		want.Gain(1, 6)
		is(t, "All", b.All(2, at, api.Term{Op: api.Heal, N: 6}), 1)
		is(t, "Same", b.Same(want), true)
	}
}

// One by one: what one term does, the next one finds done.
func TestAllInOrder(t *testing.T) {
	kill, grow, heal := api.Term{Op: api.Kill, On: api.Any}, api.Term{Op: api.Grow, N: 2, On: api.Any}, api.Term{Op: api.Heal, N: 1}
	b := giants(t)
	is(t, "All", b.All(0, 2, kill, grow, heal, kill), 2)
	is(t, "what is dead", get(t, b, 2), api.Obj{Id: 2, Card: bear, Owner: 2, Zone: api.Grave})
	is(t, "Life(0)", b.Life(0), 21)
	b = giants(t)
	is(t, "All", b.All(0, 2, grow, heal, grow, kill), 4)
	b = giants(t)
	is(t, "All", b.All(0, 2, grow, heal, grow), 3)
	is(t, "Count", get(t, b, 2).Count, 4)
	// Back, and the draw comes on top of it.
	b = giants(t)
	is(t, "All", b.All(0, 1, api.Term{Op: api.Back, On: api.Any}, api.Term{Op: api.Draw, N: 1}), 2)
	are(t, b, 0, api.InHand, 5, 1, 7)
	b = giants(t)
	is(t, "All", b.All(0, 1, api.Term{Op: api.Draw, N: 1}, api.Term{Op: api.Back, On: api.Any}), 2)
	are(t, b, 0, api.InHand, 1, 5, 7)
}

// Those that may not be, or may not be aimed so, aren't done; the others are.
func TestAllCounts(t *testing.T) {
	heal := api.Term{Op: api.Heal, N: 1}
	for _, c := range []struct {
		seat, at int
		l        []api.Term
		want     int
	}{
		{0, 0, nil, 0},
		{0, 0, []api.Term{heal}, 1},
		{0, 1, []api.Term{heal, {Op: api.Hurt, N: 1, On: api.Side}, {Op: api.Kill, On: api.Any}}, 3},
		{0, 1, []api.Term{{Op: api.Hurt, N: 1, On: api.Foe}, heal, {Op: api.Swell, N: 1, On: api.Own}}, 2},
		{2, 1, []api.Term{{Op: api.Hurt, N: 1, On: api.Foe}, heal, {Op: api.Swell, N: 1, On: api.Own}}, 2},
		{2, 9, []api.Term{{Op: api.Hurt, N: 1, On: api.Foe}, heal, {Op: api.Bind, On: api.Any}}, 1},
		{0, 2, []api.Term{{Op: api.Hurt, N: 21, On: api.Foe}, {Op: api.Heal, N: 1, On: api.Any}, {Op: api.Kill, N: 1, On: api.Any}, {Op: 0}, {Op: 10}, {}}, 0},
		{0, 0, []api.Term{{Op: api.Hurt, N: 1}, {Op: api.Hurt, N: 1, On: -1}, {Op: api.Hurt, N: 1, On: 5}, heal}, 1},
		{0, 0, slices.Repeat([]api.Term{heal}, 9), 9},
		{4, 0, []api.Term{heal, heal}, 0},
		{-1, 0, []api.Term{heal, heal}, 0},
	} {
		b := giants(t)
		l := slices.Clone(c.l)
		if n := b.All(c.seat, c.at, l...); n != c.want {
			t.Errorf("All(%d, %d, %v) = %d; want %d", c.seat, c.at, c.l, n, c.want)
		}
		if !slices.Equal(l, c.l) {
			t.Error("the list has changed")
		}
	}
}

// All is Do, one term behind the other.
func TestAllIsDo(t *testing.T) {
	was := giants(t)
	for seat := -1; seat <= 4; seat++ {
		for at := -1; at <= 5; at++ {
			for _, x := range sample() {
				for _, y := range sample() {
					a, b := was.Copy(), was.Copy()
					n := a.All(seat, at, x, y)
					if m := one(b, seat, at, x) + one(b, seat, at, y); n != m || !a.Same(b) {
						t.Fatalf("All(%d, %d, %v, %v) = %d; want %d", seat, at, x, y, n, m)
					}
				}
			}
		}
	}
}

// one does one of a card's terms: how many were done.
func one(b *effect.Board, seat, at int, x api.Term) int {
	if x.On == api.Self {
		at = 0
	}
	if b.Do(seat, x, at) {
		return 1
	}
	return 0
}
