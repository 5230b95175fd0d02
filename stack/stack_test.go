package stack_test

import (
	"math"
	"slices"
	"testing"

	"hydra/api"
	"hydra/stack"
)

// Entries of which each is another one, in each of its fields.
var (
	ant = stack.Entry{Seat: 1, Obj: 7, At: 3}
	bee = stack.Entry{Seat: 2, Obj: 5, At: 0, Trig: true}
	cat = stack.Entry{Seat: 0, Obj: 9, At: 1}
	dog = stack.Entry{Seat: -4, Obj: math.MaxInt, At: math.MinInt, Trig: true}
)

// numbered is some entries, by the numbers of their objects from 1 on.
func numbered(n int) []stack.Entry {
	var l []stack.Entry
	for i := range n {
		l = append(l, stack.Entry{Seat: i % 4, Obj: i + 1, At: 2 * i, Trig: i%3 == 0})
	}
	return l
}

func is[T comparable](t *testing.T, what string, got, want T) {
	t.Helper()
	if got != want {
		t.Errorf("%s = %v; want %v", what, got, want)
	}
}

// stands asks whether just these are on a stack, the last one on top.
func stands(t *testing.T, s *stack.Stack, l ...stack.Entry) {
	t.Helper()
	is(t, "Len", s.Len(), len(l))
	is(t, "Room", s.Room(), 8-len(l))
	told := slices.Collect(s.All())
	slices.Reverse(told)
	if !slices.Equal(told, l) {
		t.Errorf("All, from below: %v; want %v", told, l)
	}
	top, ok := s.Top()
	is(t, "Top: ok", ok, len(l) > 0)
	if len(l) > 0 {
		is(t, "Top", top, l[len(l)-1])
	} else {
		is(t, "Top", top, stack.Entry{})
	}
}

// pops asks for the top one, which is off then.
func pops(t *testing.T, s *stack.Stack, want stack.Entry) {
	t.Helper()
	x, ok := s.Pop()
	is(t, "Pop: ok", ok, true)
	is(t, "Pop", x, want)
}

// popsNone asks for the top one where there is none.
func popsNone(t *testing.T, s *stack.Stack) {
	t.Helper()
	x, ok := s.Pop()
	is(t, "Pop: ok", ok, false)
	is(t, "Pop", x, stack.Entry{})
}

func TestNew(t *testing.T) {
	stands(t, stack.New())
	stands(t, stack.New(ant), ant)
	stands(t, stack.New(ant, bee, cat, dog), ant, bee, cat, dog)
	stands(t, stack.New(stack.Entry{}), stack.Entry{})
	stands(t, new(stack.Stack))
}

// Those that come while there is room, and no others.
func TestNewAsFarAsThereIsRoom(t *testing.T) {
	for n := range 20 {
		l := numbered(n)
		s := stack.New(l...)
		stands(t, s, l[:min(n, 8)]...)
		is(t, "the list", slices.Equal(l, numbered(n)), true)
	}
	if s := stack.New(numbered(1000)...); s == nil || s.Len() != 8 {
		t.Error("New of many")
	}
}

// A list that is handed in is neither kept nor written into.
func TestNewKeepsNoList(t *testing.T) {
	l := numbered(12)
	s := stack.New(l[:3]...)
	l[0], l[2] = dog, dog
	s.Pop()
	s.Push(ant)
	s.Push(bee)
	stands(t, s, numbered(2)[0], numbered(2)[1], ant, bee)
	is(t, "the list", slices.Equal(l[3:], numbered(12)[3:]), true)
	is(t, "the list", l[2], dog)
}

func TestPushAndPop(t *testing.T) {
	s := stack.New()
	is(t, "Push", s.Push(ant), api.OK)
	stands(t, s, ant)
	is(t, "Push", s.Push(bee), api.OK)
	stands(t, s, ant, bee)
	pops(t, s, bee)
	stands(t, s, ant)
	is(t, "Push", s.Push(cat), api.OK)
	is(t, "Push", s.Push(dog), api.OK)
	stands(t, s, ant, cat, dog)
	pops(t, s, dog)
	pops(t, s, cat)
	pops(t, s, ant)
	popsNone(t, s)
	popsNone(t, s)
	stands(t, s)
	is(t, "Push", s.Push(bee), api.OK)
	stands(t, s, bee)
}

// One entry may come twice: each waits for itself.
func TestTwice(t *testing.T) {
	s := stack.New(ant, ant, bee)
	s.Push(ant)
	s.Push(stack.Entry{})
	s.Push(stack.Entry{})
	stands(t, s, ant, ant, bee, ant, stack.Entry{}, stack.Entry{})
	pops(t, s, stack.Entry{})
	stands(t, s, ant, ant, bee, ant, stack.Entry{})
	pops(t, s, stack.Entry{})
	pops(t, s, ant)
	stands(t, s, ant, ant, bee)
}

// Eight, and no ninth one: what is refused changes nothing.
func TestFull(t *testing.T) {
	s := stack.New()
	l := numbered(8)
	for i, x := range l {
		is(t, "Room", s.Room(), 8-i)
		is(t, "Push", s.Push(x), api.OK)
	}
	for _, x := range []stack.Entry{ant, bee, l[7], {}} {
		is(t, "Push", s.Push(x), api.ErrFull)
		stands(t, s, l...)
	}
	pops(t, s, l[7])
	is(t, "Push", s.Push(ant), api.OK)
	is(t, "Push", s.Push(bee), api.ErrFull)
	stands(t, s, append(slices.Clone(l[:7]), ant)...)
}

// Any numbers may wait: what they are worth is told when they are done.
func TestAnyNumbers(t *testing.T) {
	wrongs := []int{math.MinInt, -1, 0, 1, 4, 999, math.MaxInt}
	for _, n := range wrongs {
		for _, x := range []stack.Entry{{Seat: n}, {Obj: n}, {At: n, Trig: true}} {
			s := stack.New(ant)
			is(t, "Push", s.Push(x), api.OK)
			stands(t, s, ant, x)
			pops(t, s, x)
		}
	}
}

func TestNil(t *testing.T) {
	var s *stack.Stack
	is(t, "Push", s.Push(ant), api.ErrArg)
	is(t, "Len", s.Len(), 0)
	is(t, "Room", s.Room(), 0)
	popsNone(t, s)
	x, ok := s.Top()
	is(t, "Top: ok", ok, false)
	is(t, "Top", x, stack.Entry{})
	for x := range s.All() {
		t.Error("All tells", x)
	}
	b := giants(t)
	was := b.Copy()
	x, n, ok := s.Resolve(b)
	is(t, "Resolve: ok", ok, false)
	is(t, "Resolve: terms", n, 0)
	is(t, "Resolve", x, stack.Entry{})
	is(t, "the board is what it was", b.Same(was), true)
	_, _, ok = s.Resolve(nil)
	is(t, "Resolve(nil): ok", ok, false)
	is(t, "Copy", s.Copy(), nil)
	is(t, "Same(nil)", s.Same(nil), true)
	is(t, "Same of one without entries", s.Same(stack.New()), false)
	is(t, "Same", s.Same(stack.New(ant)), false)
	is(t, "Same(nil) of one without entries", stack.New().Same(nil), false)
	is(t, "Same(nil)", stack.New(ant).Same(nil), false)
}
