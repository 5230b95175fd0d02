package fight_test

import (
	"slices"
	"testing"

	"hydra/api"
	"hydra/effect"
	"hydra/fight"
)

// A side is what a board is, by the words of the chapter: who fights is told in the order of the Field.
type side struct {
	b  *effect.Board
	on []api.Obj
}

// sideOf is the Creatures on the Field.
func sideOf(b *effect.Board) side {
	x := side{b: b}
	for o := range b.Field() {
		if table()[o.Card].Kind == api.Creature {
			x.on = append(x.on, o)
		}
	}
	return x
}

func (x side) power(o api.Obj) int { return max(table()[o.Card].Power+o.Count+o.Boost, 0) }

func (x side) tough(o api.Obj) int { return max(table()[o.Card].Tough+o.Count+o.Boost, 0) }

func (x side) keys(o api.Obj) int { return table()[o.Card].Keys }

// attacks is what Attack is to answer.
func (x side) attacks(team, seat int, o api.Obj) api.Errno {
	switch {
	case x.b.Of(o.Owner) != team || seat != o.Owner:
		return api.ErrPriority
	case o.Attacks:
		return api.ErrTwice
	case o.Tapped:
		return api.ErrTapped
	case o.Sick:
		return api.ErrSick
	}
	return api.OK
}

// blocks is what Block is to answer.
func (x side) blocks(team, seat int, o api.Obj, at int) api.Errno {
	i := slices.IndexFunc(x.on, func(o api.Obj) bool { return o.Id == at && o.Attacks && x.b.Of(o.Owner) == team })
	switch {
	case x.b.Of(o.Owner) == team || seat != o.Owner:
		return api.ErrPriority
	case o.Block > 0:
		return api.ErrTwice
	case o.Tapped:
		return api.ErrTapped
	case i < 0:
		return api.ErrTarget
	case x.keys(x.on[i])&api.Flying > 0 && x.keys(o)&api.Flying == 0:
		return api.ErrTarget
	}
	return api.OK
}

// blow is the hits of a team's blow, and the poison that is given.
func (x side) blow(team int) (hits []fight.Hit, poison int) {
	add := func(from, to, n int) {
		if n > 0 {
			hits = append(hits, hit(from, to, n))
		}
	}
	for _, o := range x.on {
		if !o.Attacks || x.b.Of(o.Owner) != team {
			continue
		}
		left, last := x.power(o), -1
		for i, y := range x.on {
			if y.Block == o.Id {
				last = i
			}
		}
		if last < 0 {
			add(o.Id, -1-x.b.Next(team), left)
			if x.keys(o)&api.Toxic > 0 {
				poison++
			}
			continue
		}
		for i, y := range x.on {
			if y.Block == o.Id {
				n := min(left, max(x.tough(y)-y.Hurt, 0))
				if i == last {
					n = left
				}
				add(o.Id, y.Id, n)
				left -= n
			}
		}
		for _, y := range x.on {
			if y.Block == o.Id {
				add(y.Id, o.Id, x.power(y))
			}
		}
	}
	return hits, poison
}

// done is a board behind such a blow, with all hurts and lives far from where they are held.
func done(t *testing.T, b *effect.Board, team int, hits []fight.Hit, poison int) *effect.Board {
	t.Helper()
	b = b.Copy()
	for _, h := range hits {
		if h.To < 0 {
			b.Gain(-h.To-1, -h.N)
		} else {
			set(t, b, func(o *api.Obj) { o.Hurt += h.N }, h.To)
		}
		from := get(t, b, h.From)
		if table()[from.Card].Keys&api.Link > 0 {
			b.Gain(b.Of(from.Owner), h.N)
		}
	}
	b.Sicken(b.Next(team), poison)
	return b
}

// fights asks all of a board, of all of its teams.
func fights(t *testing.T, b *effect.Board) {
	t.Helper()
	x := sideOf(b)
	for team := range b.Teams.Len() {
		var l []int
		for _, o := range x.on {
			if o.Attacks && b.Of(o.Owner) == team {
				l = append(l, o.Id)
			}
		}
		are(t, "Attackers", attackers(b, team), l...)
		hits, poison := x.blow(team)
		plans(t, b, team, hits...)
		want, got := done(t, b, team, hits, poison), b.Copy()
		are(t, "Blow", fight.Blow(got, team), hits...)
		is(t, "the board is what it is to be", got.Same(want), true)
	}
	if t.Failed() {
		t.Fatal(x.on)
	}
}

// asks lets all Creatures attack and block, each on a board of its own, if they may.
func asks(t *testing.T, b *effect.Board) {
	t.Helper()
	x := sideOf(b)
	for _, o := range x.on {
		for team := range b.Teams.Len() {
			for seat := range b.Teams.Seats() {
				got, want := b.Copy(), b.Copy()
				e := x.attacks(team, seat, o)
				if e == api.OK {
					set(t, want, func(y *api.Obj) { y.Attacks, y.Tapped = true, x.keys(o)&api.Vigil == 0 }, o.Id)
				}
				is(t, "Attack", fight.Attack(got, team, seat, o.Id), e)
				is(t, "the board is what it is to be", got.Same(want), true)
				for at := range b.Store.Len() + 2 {
					got, want := b.Copy(), b.Copy()
					e := x.blocks(team, seat, o, at)
					if e == api.OK {
						set(t, want, func(y *api.Obj) { y.Block = at }, o.Id)
					}
					is(t, "Block", fight.Block(got, team, seat, o.Id, at), e)
					is(t, "the board is what it is to be", got.Same(want), true)
				}
			}
		}
	}
	if t.Failed() {
		t.Fatal(x.on)
	}
}

// All ways for three attackers to attack, or not, and for three blockers to block one of them, or none.
func TestAllFights(t *testing.T) {
	for _, cards := range [][6]int{{ox, hawk, tower, bear, hawk, leech}, {leech, guard, snake, tower, snake, ox}, {bear, ox, ox, hare, bear, bear}} {
		b := field(t)
		for i, n := range cards {
			b.Add(n, [6]int{0, 0, 1, 2, 3, 3}[i], api.Field)
			b.Add(land, i%4, api.Field)
		}
		ids := []int{1, 3, 5, 7, 9, 11}
		b.Lay(0, api.Field, []int{7, 2, 5, 4, 11, 1, 6, 8, 3, 10, 9, 12})
		for bits := range 8 {
			for ways := range 4 * 4 * 4 {
				b := b.Copy()
				set(t, b, func(o *api.Obj) { o.Attacks = bits>>((o.Id-1)/2)&1 == 1 }, ids[:3]...)
				for i, id := range ids[3:] {
					set(t, b, func(o *api.Obj) { o.Block = []int{0, 1, 3, 5}[ways>>(2*i)&3] }, id)
				}
				fights(t, b)
				set(t, b, func(o *api.Obj) { o.Hurt, o.Count, o.Boost = o.Id%4, o.Id%3-1, o.Id%5-1 }, ids...)
				fights(t, b)
			}
		}
	}
}

// All that may be wrong with one, and with another one that it is to block, of several sides.
func TestAllCommands(t *testing.T) {
	for _, sides := range [][]int{{0}, {0, 1}, {1, 0, 1, 0}, {0, 1, 1}, {2, 1, 0}} {
		for bits := range 1 << 6 {
			var l [][3]int
			for seat := range sides {
				l = append(l, [3]int{hawk, seat, api.Field}, [3]int{guard, seat, api.Field})
			}
			b := board(t, sides, l...)
			for o := range b.Field() {
				o.Attacks, o.Tapped, o.Sick = bits>>(o.Id%2)&1 == 1, bits>>(2+o.Id%3)&1 == 1, bits>>(3+o.Id%2)&1 == 1
				if bits>>5 == 1 && o.Id%4 == 1 {
					o.Block = 2
				}
				b.Set(o)
			}
			asks(t, b)
			fights(t, b)
		}
	}
}
