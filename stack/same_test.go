package stack_test

import (
	"slices"
	"testing"

	"hydra/stack"
)

func TestCopy(t *testing.T) {
	for name, change := range changes(t) {
		s := stack.New(ant, bee, cat)
		c := s.Copy()
		is(t, "Same of a copy", s.Same(c) && c.Same(s), true)
		want := change(s)
		stands(t, s, want...)
		stands(t, c, ant, bee, cat)
		is(t, name+": Same of what it was", s.Same(c) || c.Same(s), false)
		// The other way round: a copy's changes are its own.
		now := s.Copy()
		change(c)
		stands(t, s, want...)
		is(t, "Same when both changed", s.Same(c) && c.Same(s), true)
		is(t, "Same of a copy", now.Same(s), true)
	}
	stands(t, stack.New().Copy())
	stands(t, new(stack.Stack).Copy())
	stands(t, stack.New(numbered(8)...).Copy(), numbered(8)...)
}

// Each goes on for itself: what one lays on top, the other doesn't find.
func TestCopiesGoOn(t *testing.T) {
	s := stack.New(ant, bee, cat)
	s.Pop()
	c, d := s.Copy(), s.Copy()
	s.Push(cat)
	c.Push(dog)
	d.Push(ant)
	d.Push(bee)
	stands(t, s, ant, bee, cat)
	stands(t, c, ant, bee, dog)
	stands(t, d, ant, bee, ant, bee)
}

// Two are one just if the same entries are on both, in the same order.
func TestSame(t *testing.T) {
	lists := [][]stack.Entry{
		{}, {{}}, {{}, {}}, {ant}, {bee}, {ant, ant}, {ant, bee}, {bee, ant}, {ant, bee, cat}, {ant, cat, bee}, {cat, ant, bee},
		{{Seat: 1}}, {{Obj: 1}}, {{At: 1}}, {{Trig: true}},
		numbered(7), numbered(8), slices.Concat(numbered(7), []stack.Entry{dog}), slices.Concat([]stack.Entry{dog}, numbered(7)),
	}
	for i, a := range lists {
		for j, b := range lists {
			if same := stack.New(a...).Same(stack.New(b...)); same != (i == j) {
				t.Errorf("Same of %v and %v = %t", a, b, same)
			}
		}
	}
}

// How a stack came about doesn't matter.
func TestSameOnOtherWays(t *testing.T) {
	s := stack.New(numbered(8)...)
	for s.Len() > 0 {
		s.Pop()
	}
	is(t, "Same of no entries", s.Same(stack.New()) && stack.New().Same(s) && s.Same(new(stack.Stack)), true)
	s.Push(ant)
	s.Push(bee)
	s.Pop()
	is(t, "Same", s.Same(stack.New(ant)) && stack.New(ant).Same(s), true)
	is(t, "Same as itself", s.Same(s), true)
	is(t, "Same of too many", stack.New(numbered(12)...).Same(stack.New(numbered(8)...)), true)
}
