package pile_test

import (
	"slices"
	"testing"

	"hydra/pile"
)

// A step is a call by which a pile changes. Its model is a plain list, changed by the chapter's words.
type step struct {
	name  string
	do    func(p *pile.Pile[int]) bool
	model func(l []int) ([]int, bool)
}

func without(l []int, x int) []int {
	return slices.DeleteFunc(slices.Clone(l), func(y int) bool { return y == x })
}

func push(x int) step {
	return step{"Push", func(p *pile.Pile[int]) bool { return p.Push(x) }, func(l []int) ([]int, bool) {
		if slices.Contains(l, x) {
			return l, false
		}
		return slices.Concat([]int{x}, l), true
	}}
}

func under(x int) step {
	return step{"Under", func(p *pile.Pile[int]) bool { return p.Under(x) }, func(l []int) ([]int, bool) {
		if slices.Contains(l, x) {
			return l, false
		}
		return slices.Concat(l, []int{x}), true
	}}
}

func drop(x int) step {
	return step{"Drop", func(p *pile.Pile[int]) bool { return p.Drop(x) }, func(l []int) ([]int, bool) {
		return without(l, x), slices.Contains(l, x)
	}}
}

func pop() step {
	return step{"Pop", func(p *pile.Pile[int]) bool { _, ok := p.Pop(); return ok }, func(l []int) ([]int, bool) {
		if len(l) == 0 {
			return l, false
		}
		return without(l, l[0]), true
	}}
}

// All piles that come of a few steps, in whichever order, are what their models are; and so are their copies.
func TestAllShortWays(t *testing.T) {
	var steps []step
	for x := range 3 {
		steps = append(steps, push(x), under(x), drop(x))
	}
	goAllWays(t, append(steps, pop()), pile.New[int](), nil, 5)
}

func goAllWays(t *testing.T, steps []step, p *pile.Pile[int], l []int, left int) {
	t.Helper()
	stands(t, p, l...)
	if left == 0 || t.Failed() {
		return
	}
	for _, s := range steps {
		c := p.Copy()
		next, want := s.model(l)
		if ok := s.do(c); ok != want {
			t.Fatalf("%s of %v = %t; want %t", s.name, l, ok, want)
		}
		goAllWays(t, steps, c, next, left-1)
	}
	stands(t, p, l...)
}

// Of each two piles of a few things, and each thing: Turn is what its words say.
func TestTurnOfAllSmallPiles(t *testing.T) {
	lists := [][]int{nil}
	for i := 0; i < len(lists); i++ {
		for x := range 3 {
			if !slices.Contains(lists[i], x) {
				lists = append(lists, slices.Concat(lists[i], []int{x}))
			}
		}
	}
	for _, l := range lists {
		for _, m := range lists {
			for x := range 4 {
				turnBothWays(t, l, m, x)
			}
		}
	}
}

func turnBothWays(t *testing.T, l, m []int, x int) {
	t.Helper()
	for _, under := range []bool{false, true} {
		a, b, wantA, wantB := pile.New(l...), pile.New(m...), l, m
		want := slices.Contains(l, x) && !slices.Contains(m, x)
		if want && under {
			wantA, wantB = without(l, x), slices.Concat(m, []int{x})
		} else if want {
			wantA, wantB = without(l, x), slices.Concat([]int{x}, m)
		}
		if ok := pile.Turn(a, b, x, under); ok != want {
			t.Errorf("Turn(%v, %v, %d, %t) = %t", l, m, x, under, ok)
		}
		stands(t, a, wantA...)
		stands(t, b, wantB...)
	}
}
