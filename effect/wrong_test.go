package effect_test

import (
	"math"
	"slices"
	"testing"

	"hydra/api"
	"hydra/effect"
	"hydra/object"
	"hydra/team"
)

// terms is all terms with numbers around those that there are.
func terms() []api.Term {
	var l []api.Term
	ops := append([]int{math.MinInt, -1, 10, 11, math.MaxInt}, 0, 1, 2, 3, 4, 5, 6, 7, 8, 9)
	for _, op := range ops {
		for _, n := range []int{math.MinInt, -20, -1, 0, 1, 2, 20, 21, 999, math.MaxInt} {
			for _, on := range []int{math.MinInt, -1, 0, 1, 2, 3, 4, 5, math.MaxInt} {
				l = append(l, api.Term{Op: op, N: n, On: on})
			}
		}
	}
	return l
}

// fits tells by layer 2's words whether a term may be.
func fits(x api.Term) bool {
	on := map[int][]int{
		api.Hurt: {api.Any, api.Foe, api.Side}, api.Heal: {api.Self}, api.Draw: {api.Self}, api.Drain: {api.Self},
		api.Swell: {api.Any, api.Own}, api.Grow: {api.Any, api.Own},
		api.Kill: {api.Any, api.Foe}, api.Back: {api.Any, api.Foe}, api.Bind: {api.Any, api.Foe},
	}
	most := 20
	if x.Op == api.Kill || x.Op == api.Back || x.Op == api.Bind {
		most = 0
	}
	return slices.Contains(on[x.Op], x.On) && x.N >= 0 && x.N <= most
}

// may tells by layer 10's words what a seat of giants may aim at.
func may(seat, on, at int) bool {
	own := map[int]int{1: 0, 2: 1, 4: 1}
	side, live := own[at]
	switch on {
	case api.Self:
		return at == 0
	case api.Any:
		return live
	case api.Foe:
		return live && side != seat/2
	case api.Own:
		return live && side == seat/2
	}
	return at == 1-seat/2
}

// work does on a board, by the words of the chapter, what a term of a seat of giants does.
func work(t *testing.T, b *effect.Board, seat int, x api.Term, at int) {
	t.Helper()
	own := seat / 2
	switch x.Op {
	case api.Hurt:
		if x.On == api.Side {
			b.Gain(at, -x.N)
		} else {
			set(t, b, at, func(o *api.Obj) { o.Hurt += x.N })
		}
	case api.Heal:
		b.Gain(own, x.N)
	case api.Drain:
		b.Gain(1-own, -x.N)
	case api.Draw:
		b.Draw(seat, x.N)
	case api.Swell:
		set(t, b, at, func(o *api.Obj) { o.Boost += x.N })
	case api.Grow:
		set(t, b, at, func(o *api.Obj) { o.Count += x.N })
	case api.Kill:
		b.Move(at, api.Grave, false)
	case api.Back:
		b.Move(at, api.InHand, false)
	case api.Bind:
		set(t, b, at, func(o *api.Obj) { o.Tapped = true })
	}
}

// All terms, of all seats, at all that there is: done just if they may be, and may be aimed so; then just that is done.
func TestDoneOrNot(t *testing.T) {
	b := giants(t)
	set(t, b, 1, func(o *api.Obj) { o.Hurt, o.Count, o.Boost, o.Attacks = 1, 2, 3, true })
	set(t, b, 2, func(o *api.Obj) { o.Tapped, o.Sick, o.Block, o.Boost = true, false, 1, -4 })
	for _, x := range terms() {
		for seat := -1; seat <= 4; seat++ {
			for at := -2; at <= b.Store.Len()+1; at++ {
				now := b.Copy()
				want := seat >= 0 && seat < 4 && fits(x) && may(seat, x.On, at)
				if got := now.Do(seat, x, at); got != want {
					t.Fatalf("Do(%d, %v, %d) = %t", seat, x, at, got)
				}
				then := b.Copy()
				if want {
					work(t, then, seat, x, at)
				}
				if !now.Same(then) || !then.Same(now) {
					t.Fatalf("Do(%d, %v, %d): the board isn't what it is to be", seat, x, at)
				}
			}
		}
	}
}

// sample is terms of each operation and each aim.
func sample() []api.Term {
	return slices.DeleteFunc(terms(), func(x api.Term) bool { return !fits(x) || x.N != 0 && x.N != 2 })
}

func TestNoSuchSeat(t *testing.T) {
	b := giants(t)
	for _, seat := range append(wrongs, 4, 5) {
		for _, x := range sample() {
			for at := range 5 {
				doesNot(t, b, seat, x, at)
			}
		}
		was := b.Copy()
		is(t, "All", b.All(seat, 2, sample()...), 0)
		for _, n := range []int{-1, 0, 1, 2, 100, math.MaxInt} {
			is(t, "Draw", b.Draw(seat, n), 0)
		}
		is(t, "Dry", b.Dry(seat), false)
		is(t, "Same", b.Same(was), true)
	}
}

func TestNoSuchTarget(t *testing.T) {
	b := giants(t)
	for _, at := range append(wrongs, 3, 5, 6, 8, 9, 10, 11, 12, 14) {
		for _, x := range sample() {
			for seat := range 4 {
				doesNot(t, b, seat, x, at)
			}
		}
	}
}

// What has gone, or has lost, may not be aimed at any more.
func TestNotNow(t *testing.T) {
	for _, zone := range zones {
		b := giants(t)
		b.Move(2, zone, false)
		b.Move(2, zone, true)
		for _, x := range sample() {
			if x.On == api.Any || x.On == api.Foe {
				if zone != api.Field {
					doesNot(t, b, 0, x, 2)
				} else if now := b.Copy(); !now.Do(0, x, 2) {
					t.Errorf("Do(0, %v, 2) = false", x)
				}
			}
		}
	}
	b := giants(t)
	b.Lose(1)
	doesNot(t, b, 0, api.Term{Op: api.Hurt, N: 2, On: api.Side}, 1)
	does(t, b, b.Copy(), 0, api.Term{Op: api.Drain, N: 2}, 0)
	// Its seats may do terms still, and its Creatures be aimed at.
	want := b.Copy()
	set(t, want, 2, func(o *api.Obj) { o.Hurt = 2 })
	want.Gain(0, -3)
	want.Gain(1, 5)
	b.Do(0, api.Term{Op: api.Hurt, N: 2, On: api.Foe}, 2)
	b.Do(3, api.Term{Op: api.Hurt, N: 3, On: api.Side}, 0)
	does(t, b, want, 2, api.Term{Op: api.Heal, N: 5}, 0)
}

func TestNew(t *testing.T) {
	s, x := store(t, 2), teams(t, 0, 1)
	for _, c := range []struct {
		s    *object.Store
		x    *team.Teams
		want api.Errno
	}{
		{s, x, api.OK}, {nil, x, api.ErrArg}, {s, nil, api.ErrArg}, {nil, nil, api.ErrArg},
		{nil, new(team.Teams), api.ErrArg}, {new(object.Store), nil, api.ErrArg},
		{store(t, 1), x, api.ErrSetup}, {store(t, 3), x, api.ErrSetup}, {s, teams(t, 0), api.ErrSetup}, {s, teams(t, 0, 1, 1), api.ErrSetup},
		{store(t, 4), x, api.ErrSetup}, {store(t, 2), teams(t, 0, 0), api.OK}, {store(t, 4), teams(t, 0, 1, 1, 1), api.OK},
		{new(object.Store), x, api.ErrSetup}, {s, new(team.Teams), api.ErrSetup}, {new(object.Store), new(team.Teams), api.OK},
	} {
		b, e := effect.New(c.s, c.x)
		if e != c.want || (b != nil) != (e == api.OK) {
			t.Errorf("New = %v, %d; want %d", b, e, c.want)
		}
		if b != nil && (!b.Store.Same(c.s) || !b.Teams.Same(c.x)) {
			t.Error("New has others than were handed in")
		}
	}
	for seat := range 4 {
		is(t, "Dry", giants(t).Dry(seat), false)
	}
}

// One, two, three and four seats.
func TestSeats(t *testing.T) {
	for _, sides := range [][]int{{0}, {0, 1}, {0, 1, 1}, {0, 1, 2, 0}, {0, 0, 0, 0}} {
		b := board(t, sides)
		for seat := range sides {
			is(t, "Do", b.Do(seat, api.Term{Op: api.Heal, N: 1}, 0), true)
			is(t, "Draw", b.Draw(seat, 1), 0)
			is(t, "Dry", b.Dry(seat), true)
		}
		is(t, "Do", b.Do(len(sides), api.Term{Op: api.Heal, N: 1}, 0), false)
		is(t, "Draw", b.Draw(len(sides), 1), 0)
		is(t, "Dry", b.Dry(len(sides)), false)
	}
}

// idle asks whether a board without seats does nothing.
func idle(t *testing.T, b *effect.Board) {
	t.Helper()
	for seat := -1; seat <= 4; seat++ {
		for _, x := range sample() {
			is(t, "Do", b.Do(seat, x, x.On), false)
		}
		is(t, "All", b.All(seat, 0, sample()...), 0)
		is(t, "All of none", b.All(seat, 0), 0)
		is(t, "Draw", b.Draw(seat, 3), 0)
		is(t, "Dry", b.Dry(seat), false)
	}
	b.Wet()
	is(t, "Same", b.Same(b), true)
	is(t, "Same", b.Copy().Same(b), true)
}

func TestNil(t *testing.T) {
	var b *effect.Board
	idle(t, b)
	is(t, "Copy", b.Copy(), nil)
	is(t, "Same", b.Same(nil), true)
	is(t, "Same", b.Same(giants(t)), false)
	is(t, "Same", giants(t).Same(nil), false)
	is(t, "Same", b.Same(new(effect.Board)), false)
	is(t, "Same", new(effect.Board).Same(b), false)
}

// Boards that New didn't make: without a store, or teams, or with other numbers of seats.
func TestOddBoards(t *testing.T) {
	s, x := store(t, 2, [3]int{land, 0, api.Library}, [3]int{bear, 1, api.Field}), teams(t, 0, 1, 2)
	idle(t, new(effect.Board))
	idle(t, &effect.Board{Store: s})
	idle(t, &effect.Board{Teams: x})
	idle(t, &effect.Board{Store: new(object.Store), Teams: x})
	idle(t, &effect.Board{Store: s, Teams: new(team.Teams)})
	b := &effect.Board{Store: s, Teams: x}
	is(t, "Draw", b.Draw(2, 1), 0)
	is(t, "Do", b.Do(2, api.Term{Op: api.Heal, N: 1}, 0), false)
	is(t, "Dry", b.Dry(2), false)
	is(t, "Draw", b.Draw(0, 1), 1)
	b = &effect.Board{Store: s, Teams: teams(t, 0)}
	is(t, "Draw", b.Draw(1, 1), 0)
	is(t, "Dry", b.Dry(1), false)
	is(t, "Do", b.Do(0, api.Term{Op: api.Kill, On: api.Foe}, 2), true)
}
