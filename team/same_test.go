package team_test

import (
	"testing"

	"hydra/team"
)

// What was handed in, and what is answered, isn't what is kept.
func TestOwnMemory(t *testing.T) {
	sides, life := []int{0, 0, 1, 1}, []int{30, 31}
	x := teams(t, sides, life)
	x.Gain(0, 5)
	x.Sicken(1, 5)
	are(t, "sides", sides, 0, 0, 1, 1)
	are(t, "life", life, 30, 31)
	sides[0], sides[1], life[0], life[1] = 1, 1, 7, 7
	l := x.In(1)
	l[0], l[1] = 0, 0
	is(t, "Of(0)", x.Of(0), 0)
	are(t, "In(0)", x.In(0), 0, 1)
	are(t, "In(1)", x.In(1), 2, 3)
	shares(t, x, 0, 35, 0)
	shares(t, x, 1, 31, 5)
}

// What is behind the end of a list that is handed in is left alone.
func TestNoRoomTaken(t *testing.T) {
	all, lives := []int{0, 1, 9, 9}, []int{30, 31, 8, 8}
	x := teams(t, all[:2], lives[:2])
	x.Gain(1, 5)
	x.Lose(0)
	are(t, "sides", all, 0, 1, 9, 9)
	are(t, "life", lives, 30, 31, 8, 8)
}

// changes are what lets teams be others.
func changes() []func(x *team.Teams) {
	return []func(x *team.Teams){
		func(x *team.Teams) { x.Gain(0, 1) },
		func(x *team.Teams) { x.Gain(1, -1) },
		func(x *team.Teams) { x.Sicken(0, 1) },
		func(x *team.Teams) { x.Sicken(1, 1) },
		func(x *team.Teams) { x.Lose(0) },
		func(x *team.Teams) { x.Lose(1) },
	}
}

func TestCopy(t *testing.T) {
	for _, change := range changes() {
		x := giants(t)
		x.Gain(1, 3)
		x.Sicken(0, 2)
		was := x.Copy()
		is(t, "Same of a copy", x.Same(was), true)
		change(x)
		is(t, "Same of what was", x.Same(was), false)
		is(t, "Same of what was", was.Same(x), false)
		shares(t, was, 0, 30, 2)
		shares(t, was, 1, 33, 0)
		is(t, "Over", was.Over(), false)
		now := x.Copy()
		is(t, "Same of a copy", now.Same(x), true)
		// The other way round: a copy's changes are its own.
		change(was)
		is(t, "Same when both changed", was.Same(x), true)
	}
}

func TestCopyKeepsAll(t *testing.T) {
	x := teams(t, []int{2, 0, 1, 0}, []int{7, 8, 9})
	x.Sicken(1, 4)
	x.Gain(2, -20)
	x.Lose(0)
	c := x.Copy()
	are(t, "In(0)", c.In(0), 1, 3)
	shares(t, c, 0, 7, 0)
	shares(t, c, 1, 8, 4)
	shares(t, c, 2, -11, 0)
	is(t, "Lost(0)", c.Lost(0), true)
	is(t, "Lost(1)", c.Lost(1), false)
	is(t, "Of(0)", c.Of(0), 2)
}

func TestSame(t *testing.T) {
	all := []*team.Teams{
		nil, giants(t),
		teams(t, []int{0, 1, 0, 1}, []int{30, 30}), teams(t, []int{1, 1, 0, 0}, []int{30, 30}),
		teams(t, []int{0, 0, 1}, []int{30, 30}), teams(t, []int{0, 1, 1}, []int{30, 30}), teams(t, []int{0, 1}, []int{30, 30}),
		teams(t, []int{0, 0, 1, 1}, []int{30, 32}), teams(t, []int{0, 0, 1, 1}, []int{32, 30}),
		teams(t, []int{0, 0, 1, 2}, []int{30, 30, 30}), teams(t, []int{0, 0, 0, 0}, []int{30}),
	}
	for _, change := range changes() {
		x := giants(t)
		change(x)
		all = append(all, x)
	}
	for i, x := range all {
		for j, y := range all {
			if same := x.Same(y); same != (i == j) {
				t.Errorf("Same of %d and %d = %t", i, j, same)
			}
		}
	}
}

// What comes to the same is the same, however it came about.
func TestSameByOtherWays(t *testing.T) {
	x, y := giants(t), giants(t)
	is(t, "Same", x.Same(y), true)
	x.Gain(0, 5)
	x.Lose(1)
	is(t, "Same", x.Same(y), false)
	y.Lose(1)
	y.Gain(0, 2)
	y.Gain(0, 3)
	y.Lose(1)
	y.Sicken(1, -4)
	is(t, "Same", x.Same(y), true)
	is(t, "Same", y.Same(x), true)
}
