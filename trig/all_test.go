package trig_test

import (
	"slices"
	"testing"

	"hydra/api"
	"hydra/effect"
	"hydra/stack"
	"hydra/trig"
)

// ordered is the order by the words of the chapter: teams round and round, of each its seats, of each of these its objects.
func ordered(b *effect.Board, active int, ids []int) []int {
	var l []int
	for n := range b.Teams.Len() {
		team := (max(active, 0) + n) % b.Teams.Len()
		for _, seat := range b.Teams.In(team) {
			for o := range b.Store.All() {
				if o.Owner == seat && slices.Contains(ids, o.Id) {
					l = append(l, o.Id)
				}
			}
		}
	}
	return l
}

// aimOf is at what the cards of table are aimed.
func aimOf(n int) int {
	switch n {
	case guard:
		return api.Own
	case hunter:
		return api.Foe
	case archer, bolt:
		return api.Any
	case siege:
		return api.Side
	}
	return api.Self
}

// firstOf is the first thing that may be aimed at for a seat, by the words of layer 10.
func firstOf(b *effect.Board, seat, on int) (int, bool) {
	switch on {
	case api.Self:
		return 0, true
	case api.Side:
		for team := range b.Teams.Len() {
			if team != b.Of(seat) && !b.Lost(team) {
				return team, true
			}
		}
		return 0, false
	}
	for o := range b.Field() {
		mate := b.Of(o.Owner) == b.Of(seat)
		if table()[o.Card].Kind == api.Creature && (on == api.Any || mate == (on == api.Own)) {
			return o.Id, true
		}
	}
	return 0, false
}

// fired is what is pushed, by the words of the chapter, where there is so much room.
func fired(b *effect.Board, room, active, when int, ids []int) []stack.Entry {
	var l []stack.Entry
	for _, id := range ordered(b, active, ids) {
		o, _ := b.Get(id)
		at, ok := firstOf(b, o.Owner, aimOf(o.Card))
		if when == api.Never || table()[o.Card].When != when || !ok || b.Lost(b.Of(o.Owner)) || len(l) == room {
			continue
		}
		l = append(l, stack.Entry{Seat: o.Owner, Obj: id, At: at, Trig: true})
	}
	return l
}

// crowd is a board where each seat has one of each card, the last seat first; a number tells who is on the Field.
func crowd(t *testing.T, sides []int, on int) *effect.Board {
	t.Helper()
	var l [][3]int
	for n := range table() {
		for seat := len(sides) - 1; seat >= 0; seat-- {
			zone := api.Grave
			if (n*len(sides)+seat)%5 < on {
				zone = api.Field
			}
			l = append(l, [3]int{n, seat, zone})
		}
	}
	return board(t, sides, l...)
}

// lose lets the teams lose whose bits are there.
func lose(b *effect.Board, bits int) {
	for team := range b.Teams.Len() {
		if bits>>team&1 == 1 {
			b.Lose(team)
		}
	}
}

// All whens of all teams, of several sides, with all ways for teams to have lost.
func TestAllBoards(t *testing.T) {
	all := []int{0, 60, -1}
	for id := range 50 {
		all = append(all, 50-id, id)
	}
	lists := [][]int{all, {1}, {30, 7, 30, 12, 18, 2}, {9, 13, 17, 21, 25}, {40, 39, 38, 37, 36, 35, 34, 33}}
	for _, sides := range [][]int{{0}, {0, 1}, {1, 0}, {0, 0, 1, 1}, {1, 0, 1, 0}, {0, 1, 1, 1}, {2, 0, 1}, {3, 1, 0, 2}} {
		for on := range 6 {
			was := crowd(t, sides, on)
			for bits := range 1 << was.Teams.Len() {
				b := was.Copy()
				lose(b, bits)
				for _, ids := range lists {
					asked(t, b, ids)
				}
			}
		}
	}
}

func asked(t *testing.T, b *effect.Board, ids []int) {
	t.Helper()
	for active := -1; active <= b.Teams.Len(); active++ {
		if l := trig.Order(b, active, ids...); !slices.Equal(l, ordered(b, active, ids)) {
			t.Fatalf("Order(%d, %v) = %v; want %v", active, ids, l, ordered(b, active, ids))
		}
		for when := api.Never; when <= api.Attacks+1; when++ {
			there := (active + when + len(ids)) % 9
			first := slices.Repeat([]stack.Entry{{At: 4}}, there)
			s, was := stack.New(first...), b.Copy()
			want := fired(b, s.Room(), active, when, ids)
			is(t, "Fire", trig.Fire(b, s, active, when, ids...), len(want))
			stands(t, s, slices.Concat(first, want)...)
			is(t, "the board is what it was", b.Same(was), true)
		}
	}
	if t.Failed() {
		t.FailNow()
	}
}
