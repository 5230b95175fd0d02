package stack_test

import (
	"slices"
	"testing"

	"hydra/api"
	"hydra/stack"
)

// From the top on.
func TestAll(t *testing.T) {
	for n := range 9 {
		want := numbered(n)
		slices.Reverse(want)
		if l := slices.Collect(stack.New(numbered(n)...).All()); !slices.Equal(l, want) {
			t.Errorf("All = %v; want %v", l, want)
		}
	}
}

// It ends as soon as no more is asked for, and may be told anew.
func TestAllAsFarAsAsked(t *testing.T) {
	all := stack.New(ant, bee, cat, dog).All()
	for stop := 1; stop <= 4; stop++ {
		calls := 0
		all(func(stack.Entry) bool {
			calls++
			return calls < stop
		})
		is(t, "told", calls, stop)
	}
	for range 2 {
		if l := slices.Collect(all); !slices.Equal(l, []stack.Entry{dog, cat, bee, ant}) {
			t.Error(l)
		}
	}
	n := 0
	for x := range all {
		if l := slices.Collect(all); len(l) != 4 || l[n] != x {
			t.Error("within another:", l)
		}
		n++
	}
	is(t, "told", n, 4)
}

// changes is what may come of a stack of ant, bee, cat, and what it is then.
func changes(t *testing.T) map[string]func(s *stack.Stack) []stack.Entry {
	b := giants(t)
	return map[string]func(s *stack.Stack) []stack.Entry{
		"one pushed":   func(s *stack.Stack) []stack.Entry { s.Push(dog); return []stack.Entry{ant, bee, cat, dog} },
		"one popped":   func(s *stack.Stack) []stack.Entry { s.Pop(); return []stack.Entry{ant, bee} },
		"all popped":   func(s *stack.Stack) []stack.Entry { s.Pop(); s.Pop(); s.Pop(); return nil },
		"one resolved": func(s *stack.Stack) []stack.Entry { s.Resolve(b); return []stack.Entry{ant, bee} },
		"others instead": func(s *stack.Stack) []stack.Entry {
			for s.Len() > 0 {
				s.Pop()
			}
			s.Push(dog)
			s.Push(dog)
			s.Push(ant)
			return []stack.Entry{dog, dog, ant}
		},
		"filled": func(s *stack.Stack) []stack.Entry {
			for s.Push(dog) == api.OK {
			}
			return append([]stack.Entry{ant, bee, cat}, slices.Repeat([]stack.Entry{dog}, 5)...)
		},
	}
}

// All is of the stack as it was when it was called, whatever comes of it ahead of its being told, or meanwhile.
func TestAllAsItWas(t *testing.T) {
	was := []stack.Entry{cat, bee, ant}
	for name, change := range changes(t) {
		s := stack.New(ant, bee, cat)
		all := s.All()
		want := change(s)
		if l := slices.Collect(all); !slices.Equal(l, was) {
			t.Errorf("%s, ahead: %v", name, l)
		}
		stands(t, s, want...)
		for at := range 3 {
			s, l := stack.New(ant, bee, cat), []stack.Entry(nil)
			for x := range s.All() {
				if len(l) == at {
					want = change(s)
				}
				l = append(l, x)
			}
			if !slices.Equal(l, was) {
				t.Errorf("%s, at %d: %v", name, at, l)
			}
			stands(t, s, want...)
		}
	}
}

// A panic of the loop is the loop's own.
func TestPanicOfLoopGetsOut(t *testing.T) {
	s := stack.New(ant, bee)
	defer func() {
		is(t, "the panic", recover() == "mine", true)
		stands(t, s, ant, bee)
	}()
	for range s.All() {
		panic("mine")
	}
}
