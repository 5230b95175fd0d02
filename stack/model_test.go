package stack_test

import (
	"slices"
	"testing"

	"hydra/api"
	"hydra/effect"
	"hydra/stack"
)

// A step is a call by which a stack changes. Its model is a plain list, changed by the chapter's words.
type step func(t *testing.T, s *stack.Stack, l []stack.Entry) []stack.Entry

func push(x stack.Entry) step {
	return func(t *testing.T, s *stack.Stack, l []stack.Entry) []stack.Entry {
		t.Helper()
		if len(l) == 8 {
			is(t, "Push", s.Push(x), api.ErrFull)
			return l
		}
		is(t, "Push", s.Push(x), api.OK)
		return slices.Concat(l, []stack.Entry{x})
	}
}

func pop(t *testing.T, s *stack.Stack, l []stack.Entry) []stack.Entry {
	t.Helper()
	if len(l) == 0 {
		popsNone(t, s)
		return l
	}
	pops(t, s, l[len(l)-1])
	return l[:len(l)-1]
}

// resolve is of no object, so that nothing but the stack changes.
func resolve(t *testing.T, s *stack.Stack, l []stack.Entry) []stack.Entry {
	t.Helper()
	x, n, ok := s.Resolve(new(effect.Board))
	is(t, "Resolve: terms", n, 0)
	is(t, "Resolve: ok", ok, len(l) > 0)
	if len(l) == 0 {
		is(t, "Resolve", x, stack.Entry{})
		return l
	}
	is(t, "Resolve", x, l[len(l)-1])
	return l[:len(l)-1]
}

// All stacks that come of a few steps, in whichever order, from none, some and eight entries, are what their models are; and so are their copies.
func TestAllShortWays(t *testing.T) {
	steps := []step{push(ant), push(bee), pop, resolve}
	for _, n := range []int{0, 1, 4, 6, 7, 8} {
		goAllWays(t, steps, stack.New(numbered(n)...), numbered(n), 5)
	}
}

func goAllWays(t *testing.T, steps []step, s *stack.Stack, l []stack.Entry, left int) {
	t.Helper()
	stands(t, s, l...)
	if left == 0 || t.Failed() {
		return
	}
	for _, do := range steps {
		c := s.Copy()
		goAllWays(t, steps, c, do(t, c, l), left-1)
	}
	stands(t, s, l...)
}
