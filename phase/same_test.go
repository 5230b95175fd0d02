package phase_test

import (
	"testing"

	"hydra/api"
	"hydra/effect"
	"hydra/phase"
)

// changes is all ways by which a turn may become another one.
func changes(t *testing.T) map[string]func(y *phase.Turn) {
	t.Helper()
	b := giants(t)
	return map[string]func(y *phase.Turn){
		"Next":  func(y *phase.Turn) { y.Next(b) },
		"Lay 0": func(y *phase.Turn) { y.Lay(0) },
		"Lay 3": func(y *phase.Turn) { y.Lay(3) },
		"Team":  func(y *phase.Turn) { y.Team++ },
		"No":    func(y *phase.Turn) { y.No++ },
		"Phase": func(y *phase.Turn) { y.Phase++ },
	}
}

func TestCopy(t *testing.T) {
	for name, change := range changes(t) {
		y := turn(1, 5, phase.Strike)
		y.Lay(2)
		c := y.Copy()
		at(t, c, 1, 5, phase.Strike)
		laid(t, c, 2)
		is(t, "Same of a copy", y.Same(c) && c.Same(y), true)
		change(y)
		at(t, c, 1, 5, phase.Strike)
		laid(t, c, 2)
		is(t, name+": Same of what it was", y.Same(c) || c.Same(y), false)
		now := y.Copy()
		change(c)
		is(t, name+": Same when both changed", y.Same(c) && c.Same(y), true)
		is(t, name+": the copy's changes are its own", y.Same(now), true)
	}
}

// Two are one just if team, number, phase, and who laid a land are.
func TestSame(t *testing.T) {
	var l []*phase.Turn
	for team := -1; team < 2; team++ {
		for no := range 2 {
			for now := range 3 {
				for bits := range 1 << 4 {
					y := turn(team, no, now)
					for seat := range 4 {
						if bits>>seat&1 == 1 {
							y.Lay(seat)
						}
					}
					l = append(l, y)
				}
			}
		}
	}
	for i, a := range l {
		for j, b := range l {
			if a.Same(b) != (i == j) {
				t.Fatalf("Same of %v and %v = %t", *a, *b, a.Same(b))
			}
		}
	}
}

// How a turn came about doesn't matter.
func TestSameOnOtherWays(t *testing.T) {
	b := giants(t)
	y := phase.New(0)
	y.Lay(0)
	y.Lay(7)
	after(b, y, 1)
	is(t, "Same", y.Same(turn(1, 2, phase.Wake)) && turn(1, 2, phase.Wake).Same(y), true)
	y.Lay(2)
	y.Lay(2)
	z := turn(1, 2, phase.Wake)
	is(t, "Same", y.Same(z), false)
	z.Lay(2)
	is(t, "Same", y.Same(z) && y.Same(y), true)
}

// A nil turn is nothing, refuses, and is the same as nil alone.
func TestNilTurn(t *testing.T) {
	var y *phase.Turn
	b := crowd(t, 0, 0, 1, 1)
	was := b.Copy()
	y.Begin(b)
	y.Next(b)
	y.Begin(nil)
	y.Next(nil)
	is(t, "the board is what it was", b.Same(was), true)
	is(t, "Main", y.Main(), false)
	for _, seat := range append(odd(), 0, 1, 2, 3) {
		is(t, "May", y.May(b, seat) || y.May(nil, seat), false)
		is(t, "Laid", y.Laid(seat), false)
		is(t, "Lay", y.Lay(seat), api.ErrArg)
	}
	is(t, "Copy", y.Copy(), nil)
	is(t, "Same of nils", y.Same(nil), true)
	for _, x := range []*phase.Turn{phase.New(0), new(phase.Turn)} {
		is(t, "Same as nil", x.Same(nil) || y.Same(x), false)
	}
}

// Without a board nothing happens: the turn stays where it is.
func TestNilBoard(t *testing.T) {
	var b *effect.Board
	for n := range 10 {
		y := turn(1, 2, n)
		y.Lay(2)
		was := y.Copy()
		y.Begin(b)
		y.Next(b)
		is(t, "the turn is what it was", y.Same(was), true)
		for _, seat := range append(odd(), 0, 1, 2, 3) {
			is(t, "May", y.May(b, seat), false)
		}
	}
}
