package pile_test

import (
	"math"
	"slices"
	"testing"

	"hydra/pile"
)

// stands asks all that a pile tells of itself, from the top on.
func stands[T comparable](t *testing.T, p *pile.Pile[T], want ...T) {
	t.Helper()
	if l := p.List(); !slices.Equal(l, want) {
		t.Errorf("List() = %v; want %v", l, want)
		return
	}
	if n := p.Len(); n != len(want) {
		t.Errorf("Len() = %d; want %d", n, len(want))
	}
	for i, x := range want {
		if y, ok := p.At(i); y != x || !ok {
			t.Errorf("At(%d) = %v, %t; want %v", i, y, ok, x)
		}
		if n := p.Place(x); n != i {
			t.Errorf("Place(%v) = %d; want %d", x, n, i)
		}
		if !p.Has(x) {
			t.Errorf("Has(%v) is false", x)
		}
	}
	told(t, p, want)
}

// told asks for the things one by one, both ways.
func told[T comparable](t *testing.T, p *pile.Pile[T], want []T) {
	t.Helper()
	var l []T
	for i, x := range p.All() {
		if i != len(l) {
			t.Errorf("All() tells place %d; want %d", i, len(l))
		}
		l = append(l, x)
	}
	if !slices.Equal(l, want) {
		t.Errorf("All() tells %v; want %v", l, want)
	}
	back := slices.Collect(p.Back())
	slices.Reverse(back)
	if !slices.Equal(back, want) {
		t.Errorf("Back() tells %v, turned round; want %v", back, want)
	}
}

// lacks asks for things that aren't there, in each of the ways.
func lacks[T comparable](t *testing.T, p *pile.Pile[T], l ...T) {
	t.Helper()
	was := p.List()
	for _, x := range l {
		if p.Has(x) || p.Place(x) != -1 {
			t.Errorf("Has(%v) = %t, Place(%v) = %d", x, p.Has(x), x, p.Place(x))
		}
		if p.Drop(x) {
			t.Errorf("Drop(%v) is true", x)
		}
	}
	stands(t, p, was...)
}

// answers asks whether a call answered what it should.
func answers(t *testing.T, call string, got, want bool) {
	t.Helper()
	if got != want {
		t.Errorf("%s = %t", call, got)
	}
}

// pops takes the top one off.
func pops[T comparable](t *testing.T, p *pile.Pile[T], want T, there bool) {
	t.Helper()
	if x, ok := p.Pop(); x != want || ok != there {
		t.Errorf("Pop() = %v, %t; want %v, %t", x, ok, want, there)
	}
}

func TestNew(t *testing.T) {
	stands(t, pile.New(1, 2, 3), 1, 2, 3)
	stands(t, pile.New(3, 1, 2), 3, 1, 2)
	stands(t, pile.New("a"), "a")
	stands(t, pile.New[int]())
	stands(t, pile.New([]int{}...))
	stands(t, pile.New(0, -1, math.MaxInt, math.MinInt), 0, -1, math.MaxInt, math.MinInt)
	stands(t, new(pile.Pile[int]))
}

// One that comes again is gone over: it stands where it came first.
func TestNewOfThingsThatComeAgain(t *testing.T) {
	stands(t, pile.New(1, 1), 1)
	stands(t, pile.New(0, 0, 0), 0)
	stands(t, pile.New(1, 2, 1, 3, 3, 2, 4, 1), 1, 2, 3, 4)
	stands(t, pile.New("", "a", "", "b", "a"), "", "a", "b")
}

func TestAnyComparableThings(t *testing.T) {
	type card struct{ n, owner int }
	stands(t, pile.New(card{1, 2}, card{2, 1}, card{1, 2}, card{1, 1}), card{1, 2}, card{2, 1}, card{1, 1})
	stands(t, pile.New([2]string{"a", "b"}, [2]string{"b", "a"}, [2]string{"a", "b"}), [2]string{"a", "b"}, [2]string{"b", "a"})
	stands(t, pile.New(true, false, true), true, false)
	stands(t, pile.New(struct{}{}, struct{}{}), struct{}{})
	stands[any](t, pile.New[any](1, "1", 1, nil, int8(1), nil), 1, "1", nil, int8(1))
	x, y := 5, 5
	stands(t, pile.New(&x, &y, &x, nil), &x, &y, nil)
}

func TestAtPlacesThatAreNone(t *testing.T) {
	for _, p := range []*pile.Pile[int]{pile.New(7, 8, 9), pile.New(7), pile.New[int](), nil} {
		for _, i := range []int{p.Len(), p.Len() + 1, -1, -p.Len() - 1, math.MaxInt, math.MinInt} {
			if x, ok := p.At(i); x != 0 || ok {
				t.Errorf("of %d, At(%d) = %d, %t", p.Len(), i, x, ok)
			}
		}
	}
}

func TestThingsThatAreNotThere(t *testing.T) {
	lacks(t, pile.New(1, 2, 3), 0, 4, -1, math.MaxInt, math.MinInt)
	lacks(t, pile.New("a", "b"), "", "A", "ab", "c")
	lacks(t, pile.New[int](), 0, 1, -1)
}

func TestPushAndUnder(t *testing.T) {
	p := pile.New(1, 2)
	answers(t, "Push(3)", p.Push(3), true)
	answers(t, "Under(4)", p.Under(4), true)
	stands(t, p, 3, 1, 2, 4)
	e := pile.New[string]()
	answers(t, "Push on none", e.Push("a"), true)
	stands(t, e, "a")
	e = pile.New[string]()
	answers(t, "Under none", e.Under("a"), true)
	stands(t, e, "a")
	answers(t, "Push", e.Push("b"), true)
	answers(t, "Push", e.Push("c"), true)
	answers(t, "Under", e.Under("d"), true)
	answers(t, "Under", e.Under("e"), true)
	stands(t, e, "c", "b", "a", "d", "e")
}

// What is there stays where it is.
func TestPushAndUnderOfWhatIsThere(t *testing.T) {
	p := pile.New(1, 2, 3)
	for _, x := range []int{1, 2, 3} {
		answers(t, "Push", p.Push(x), false)
		stands(t, p, 1, 2, 3)
		answers(t, "Under", p.Under(x), false)
		stands(t, p, 1, 2, 3)
	}
	answers(t, "Drop", p.Drop(1), true)
	answers(t, "Under of what was dropped", p.Under(1), true)
	stands(t, p, 2, 3, 1)
	answers(t, "Under again", p.Under(1), false)
	stands(t, p, 2, 3, 1)
}

func TestPop(t *testing.T) {
	p := pile.New("a", "b", "c")
	pops(t, p, "a", true)
	stands(t, p, "b", "c")
	lacks(t, p, "a")
	answers(t, "Push", p.Push("a"), true)
	pops(t, p, "a", true)
	pops(t, p, "b", true)
	pops(t, p, "c", true)
	stands(t, p)
	for range 3 {
		pops(t, p, "", false)
		stands(t, p)
	}
	answers(t, "Under of what was popped", p.Under("b"), true)
	stands(t, p, "b")
	zero := pile.New(0)
	pops(t, zero, 0, true)
	pops(t, zero, 0, false)
}

func TestDrop(t *testing.T) {
	for x, want := range map[int][]int{1: {2, 3, 4}, 2: {1, 3, 4}, 3: {1, 2, 4}, 4: {1, 2, 3}} {
		p := pile.New(1, 2, 3, 4)
		answers(t, "Drop", p.Drop(x), true)
		stands(t, p, want...)
		lacks(t, p, x)
	}
	p := pile.New(5)
	answers(t, "Drop", p.Drop(5), true)
	stands(t, p)
	answers(t, "Drop again", p.Drop(5), false)
	stands(t, p)
}

func TestTurn(t *testing.T) {
	for _, v := range []struct {
		name     string
		a, b     []int
		x        int
		under    bool
		ok       bool
		newA, to []int
	}{
		{"on top", []int{1, 2, 3}, []int{4, 5}, 2, false, true, []int{1, 3}, []int{2, 4, 5}},
		{"under", []int{1, 2, 3}, []int{4, 5}, 2, true, true, []int{1, 3}, []int{4, 5, 2}},
		{"the first one", []int{1, 2, 3}, []int{4, 5}, 1, false, true, []int{2, 3}, []int{1, 4, 5}},
		{"the last one, under", []int{1, 2, 3}, []int{4, 5}, 3, true, true, []int{1, 2}, []int{4, 5, 3}},
		{"the only one", []int{1}, []int{4}, 1, false, true, nil, []int{1, 4}},
		{"on none", []int{1, 2}, nil, 1, false, true, []int{2}, []int{1}},
		{"under none", []int{1, 2}, nil, 2, true, true, []int{1}, []int{2}},
		{"in none of both", []int{1, 2}, []int{4}, 9, false, false, []int{1, 2}, []int{4}},
		{"in none of both, under", []int{1, 2}, []int{4}, 9, true, false, []int{1, 2}, []int{4}},
		{"in b alone", []int{1, 2}, []int{4, 5}, 5, false, false, []int{1, 2}, []int{4, 5}},
		{"in b alone, under", []int{1, 2}, []int{4, 5}, 4, true, false, []int{1, 2}, []int{4, 5}},
		{"in both", []int{1, 2}, []int{4, 2}, 2, false, false, []int{1, 2}, []int{4, 2}},
		{"in both, under", []int{1, 2}, []int{2, 4}, 2, true, false, []int{1, 2}, []int{2, 4}},
		{"off none", nil, []int{4}, 1, false, false, nil, []int{4}},
		{"both none", nil, nil, 0, true, false, nil, nil},
	} {
		a, b := pile.New(v.a...), pile.New(v.b...)
		if ok := pile.Turn(a, b, v.x, v.under); ok != v.ok {
			t.Errorf("%s: %t", v.name, ok)
		}
		stands(t, a, v.newA...)
		stands(t, b, v.to...)
	}
}

// Of a pile and itself: what is in the one is in the other.
func TestTurnOntoItself(t *testing.T) {
	p := pile.New(1, 2, 3)
	for _, x := range []int{1, 2, 3, 4} {
		for _, under := range []bool{false, true} {
			answers(t, "Turn", pile.Turn(p, p, x, under), false)
			stands(t, p, 1, 2, 3)
		}
	}
}

func TestTurnOfNil(t *testing.T) {
	var none *pile.Pile[int]
	p := pile.New(1, 2)
	for _, under := range []bool{false, true} {
		for _, x := range []int{0, 1, 2, 3} {
			answers(t, "Turn off a nil", pile.Turn(none, p, x, under), false)
			answers(t, "Turn on a nil", pile.Turn(p, none, x, under), false)
			answers(t, "Turn of nils", pile.Turn(none, none, x, under), false)
			stands(t, p, 1, 2)
		}
	}
}

func TestNilPile(t *testing.T) {
	var p *pile.Pile[int]
	for range 2 {
		stands(t, p)
		lacks(t, p, 0, 1, -1)
		pops(t, p, 0, false)
		for _, x := range []int{0, 1} {
			answers(t, "Push", p.Push(x), false)
			answers(t, "Under", p.Under(x), false)
		}
		if c := p.Copy(); c != nil {
			t.Error("the copy of a nil:", c)
		}
		if l := slices.Collect(pile.Where(p, func(int) bool { return true })); len(l) != 0 {
			t.Error("Where of a nil:", l)
		}
	}
}

// What isn't equal to itself (no number, of floats) is there, but it is found nowhere.
func TestThingsUnlikeThemselves(t *testing.T) {
	nan := math.NaN()
	p := pile.New(nan, 1, nan)
	if p.Len() != 3 || p.Has(nan) || p.Place(nan) != -1 || p.Place(1) != 1 || p.Drop(nan) {
		t.Error(p.List())
	}
	if !p.Push(nan) || p.Len() != 4 || pile.Turn(p, pile.New[float64](), nan, false) || p.Len() != 4 {
		t.Error(p.List())
	}
	if x, ok := p.Pop(); x == x || !ok || p.Len() != 3 {
		t.Error(x, ok)
	}
	negative := math.Copysign(0, -1)
	if z := pile.New(negative); !z.Has(0) || z.Push(0) || !z.Drop(0) {
		t.Error(z.List())
	}
}

// Values of an interface that can't be compared are equal to none; nothing panics, and all others are found.
func TestThingsThatCannotBeCompared(t *testing.T) {
	list, other := []int{1}, map[int]int{}
	p := pile.New[any](list, 1, list, other, "a")
	if p.Len() != 5 || p.Has(list) || p.Place(other) != -1 || p.Place(1) != 1 || p.Place("a") != 4 || p.Drop(list) {
		t.Error(p.List()...)
	}
	if !p.Push(list) || !p.Under(other) || p.Push("a") || !p.Drop("a") || p.Len() != 6 {
		t.Error(p.List()...)
	}
	q := pile.New[any](list)
	if pile.Turn(p, q, any(list), false) || !pile.Turn(p, q, any(1), true) || p.Len() != 5 || q.Place(1) != 1 {
		t.Error(p.List(), q.List())
	}
	type pair struct{ a, b any }
	r := pile.New(pair{1, list}, pair{1, 2}, pair{list, 2}, pair{1, 2})
	if r.Len() != 3 || r.Place(pair{1, 2}) != 1 || r.Has(pair{1, list}) || r.Has(pair{list, 2}) {
		t.Error(r.List())
	}
}

// A pile keeps what it was handed in, not the list.
func TestPilesAreTheirOwn(t *testing.T) {
	l := make([]int, 3, 9)
	copy(l, []int{1, 2, 3})
	p := pile.New(l...)
	l[0], l[2] = 99, 98
	stands(t, p, 1, 2, 3)
	p.Drop(2)
	p.Push(7)
	p.Under(8)
	if !slices.Equal(l[:6], []int{99, 2, 98, 0, 0, 0}) {
		t.Error(l[:6])
	}
	stands(t, p, 7, 1, 3, 8)
}

func TestListIsOnesOwn(t *testing.T) {
	p := pile.New(1, 2, 3)
	p.Drop(3)
	l, m := p.List(), p.List()
	l[0] = 99
	_ = append(l, 98)
	stands(t, p, 1, 2)
	p.Under(4)
	p.Push(5)
	p.Drop(2)
	if !slices.Equal(l, []int{99, 2}) || !slices.Equal(m, []int{1, 2}) {
		t.Error(l, m)
	}
	stands(t, p, 5, 1, 4)
}

func TestCopy(t *testing.T) {
	for _, change := range []func(*pile.Pile[int]){
		func(p *pile.Pile[int]) { p.Pop() },
		func(p *pile.Pile[int]) { p.Drop(2) },
		func(p *pile.Pile[int]) { p.Drop(3) },
		func(p *pile.Pile[int]) { p.Push(4) },
		func(p *pile.Pile[int]) { p.Under(4) },
		func(p *pile.Pile[int]) { p.Pop(); p.Under(5); p.Push(6); p.Under(7) },
		func(p *pile.Pile[int]) { pile.Turn(p, pile.New[int](), 1, false) },
		func(p *pile.Pile[int]) { pile.Turn(pile.New(9), p, 9, true) },
	} {
		// Room behind the last one, which both must not fill.
		p := pile.New(1, 2, 3, 0)
		p.Drop(0)
		c := p.Copy()
		stands(t, c, 1, 2, 3)
		change(c)
		stands(t, p, 1, 2, 3)
		c = p.Copy()
		change(p)
		stands(t, c, 1, 2, 3)
	}
	p, c := pile.New(1), pile.New(1).Copy()
	p.Under(2)
	c.Under(3)
	stands(t, p, 1, 2)
	stands(t, c, 1, 3)
	e := pile.New[string]()
	c2 := e.Copy()
	if c2 == nil || c2 == e {
		t.Error("the copy of an empty pile is no pile of its own")
	}
	answers(t, "Push on a copy", c2.Push("a"), true)
	stands(t, e)
}
