package trig_test

import (
	"math"
	"slices"
	"testing"

	"hydra/api"
	"hydra/effect"
	"hydra/object"
	"hydra/stack"
	"hydra/team"
	"hydra/trig"
)

// The cards of table, by their places.
const (
	land = iota
	bear
	hare
	ghost
	sage
	guard
	hunter
	archer
	siege
	bolt
	scheme
)

func table() []api.Card {
	return []api.Card{
		land:   {Kind: api.Land},
		bear:   {Kind: api.Creature, Cost: 2, Power: 2, Tough: 2},
		hare:   {Kind: api.Creature, Power: 1, Tough: 1, When: api.Attacks, Terms: []api.Term{{Op: api.Heal, N: 1}}},
		ghost:  {Kind: api.Creature, Tough: 1, When: api.Dies, Terms: []api.Term{{Op: api.Drain, N: 2}, {Op: api.Draw, N: 1}}},
		sage:   {Kind: api.Creature, Tough: 2, When: api.Enters, Terms: []api.Term{{Op: api.Draw, N: 1}}},
		guard:  {Kind: api.Creature, Tough: 4, When: api.Enters, Terms: []api.Term{{Op: api.Heal, N: 1}, {Op: api.Grow, N: 2, On: api.Own}}},
		hunter: {Kind: api.Creature, Tough: 3, When: api.Enters, Terms: []api.Term{{Op: api.Kill, On: api.Foe}}},
		archer: {Kind: api.Creature, Tough: 1, When: api.Enters, Terms: []api.Term{{Op: api.Hurt, N: 1, On: api.Any}, {Op: api.Heal, N: 1}}},
		siege:  {Kind: api.Creature, Tough: 5, When: api.Enters, Terms: []api.Term{{Op: api.Hurt, N: 3, On: api.Side}}},
		bolt:   {Kind: api.Spell, Cost: 1, Terms: []api.Term{{Op: api.Hurt, N: 2, On: api.Any}}},
		scheme: {Kind: api.Scheme, Terms: []api.Term{{Op: api.Drain, N: 4}}},
	}
}

var zones = []int{api.Library, api.InHand, api.Field, api.Stack, api.Grave, api.Exile, api.Command}

// board is a board of seats of such teams, each of life 20, with objects: of each its card, owner and zone.
func board(t *testing.T, sides []int, l ...[3]int) *effect.Board {
	t.Helper()
	s, e := object.New(table(), len(sides))
	if e != api.OK {
		t.Fatal("object.New:", e)
	}
	x, e := team.New(sides, slices.Repeat([]int{20}, slices.Max(sides)+1))
	if e != api.OK {
		t.Fatal("team.New:", e)
	}
	b, e := effect.New(s, x)
	if e != api.OK {
		t.Fatal("effect.New:", e)
	}
	for _, x := range l {
		if _, e := b.Add(x[0], x[1], x[2]); e != api.OK {
			t.Fatalf("Add(%v): %d", x, e)
		}
	}
	return b
}

// giants is two heads against two: 1 to 4 are ghosts on the Field, of seats 3, 0, 2, 1; 5 to 8 of the same seats in their Graves.
func giants(t *testing.T) *effect.Board {
	t.Helper()
	return board(t, []int{0, 0, 1, 1},
		[3]int{ghost, 3, api.Field}, [3]int{ghost, 0, api.Field}, [3]int{ghost, 2, api.Field}, [3]int{ghost, 1, api.Field},
		[3]int{ghost, 3, api.Grave}, [3]int{ghost, 0, api.Grave}, [3]int{ghost, 2, api.Grave}, [3]int{ghost, 1, api.Grave})
}

func is[T comparable](t *testing.T, what string, got, want T) {
	t.Helper()
	if got != want {
		t.Errorf("%s = %v; want %v", what, got, want)
	}
}

func orders(t *testing.T, b *effect.Board, active int, ids []int, want ...int) {
	t.Helper()
	if l := trig.Order(b, active, ids...); !slices.Equal(l, want) {
		t.Errorf("Order(%d, %v) = %v; want %v", active, ids, l, want)
	}
}

// fires asks what is pushed onto a stack that has one entry already: one by one, the last one on top. The board stays what it is.
func fires(t *testing.T, b *effect.Board, active, when int, ids []int, want ...stack.Entry) {
	t.Helper()
	first := stack.Entry{Seat: 3, Obj: 99, At: 9}
	s, was := stack.New(first), b.Copy()
	is(t, "Fire", trig.Fire(b, s, active, when, ids...), len(want))
	stands(t, s, slices.Concat([]stack.Entry{first}, want)...)
	is(t, "the board is what it was", b.Same(was), true)
}

// stands asks whether just these are on a stack, the last one on top.
func stands(t *testing.T, s *stack.Stack, want ...stack.Entry) {
	t.Helper()
	l := slices.Collect(s.All())
	slices.Reverse(l)
	if !slices.Equal(l, want) {
		t.Errorf("the stack, from below: %v; want %v", l, want)
	}
}

// trigger is an entry of a seat's object.
func trigger(seat, id, at int) stack.Entry {
	return stack.Entry{Seat: seat, Obj: id, At: at, Trig: true}
}

// The chapter's example: what is pushed first is done last.
func TestBothDrain(t *testing.T) {
	for active := range 2 {
		b := board(t, []int{0, 1}, [3]int{ghost, 0, api.Grave}, [3]int{ghost, 1, api.Grave})
		s := stack.New()
		is(t, "Fire", trig.Fire(b, s, active, api.Dies, 2, 1), 2)
		stands(t, s, trigger(active, active+1, 0), trigger(1-active, 2-active, 0))
		x, n, ok := s.Resolve(b)
		is(t, "the first one that is done", x, trigger(1-active, 2-active, 0))
		is(t, "its terms", n, 2)
		is(t, "ok", ok, true)
		is(t, "Life of the active team", b.Life(active), 18)
		is(t, "Life of the other team", b.Life(1-active), 20)
		x, _, _ = s.Resolve(b)
		is(t, "the last one that is done", x, trigger(active, active+1, 0))
		is(t, "Life of the other team", b.Life(1-active), 18)
	}
}

// Teams from the active one on, of a team by seats, of a seat by numbers: whatever the order in which they are handed in.
func TestOrder(t *testing.T) {
	b := giants(t)
	for _, ids := range [][]int{{1, 2, 3, 4, 5, 6, 7, 8}, {8, 7, 6, 5, 4, 3, 2, 1}, {5, 1, 6, 2, 7, 3, 8, 4}} {
		orders(t, b, 0, ids, 2, 6, 4, 8, 3, 7, 1, 5)
		orders(t, b, 1, ids, 3, 7, 1, 5, 2, 6, 4, 8)
	}
	orders(t, b, 1, []int{4, 1}, 1, 4)
	orders(t, b, 0, []int{1, 4}, 4, 1)
	orders(t, b, 0, []int{7}, 7)
	orders(t, b, 0, nil)
}

// Seats of a team need not stand together, nor the first seat be of the first team.
func TestOrderOfMixedSides(t *testing.T) {
	l := [][3]int{{bear, 3, api.Field}, {land, 2, api.InHand}, {bolt, 1, api.Stack}, {scheme, 0, api.Command}, {bear, 0, api.Library}}
	ids := []int{1, 2, 3, 4, 5}
	b := board(t, []int{1, 0, 1, 0}, l...)
	orders(t, b, 0, ids, 3, 1, 4, 5, 2)
	orders(t, b, 1, ids, 4, 5, 2, 3, 1)
	b = board(t, []int{2, 0, 1, 3}, l...)
	orders(t, b, 0, ids, 3, 2, 4, 5, 1)
	orders(t, b, 1, ids, 2, 4, 5, 1, 3)
	orders(t, b, 2, ids, 4, 5, 1, 3, 2)
	orders(t, b, 3, ids, 1, 3, 2, 4, 5)
	b = board(t, []int{0, 0, 0, 0}, l...)
	for active := range 3 {
		orders(t, b, active, ids, 4, 5, 3, 2, 1)
	}
}

// The active team is taken modulo how many there are; below 0 it is 0.
func TestActive(t *testing.T) {
	b := giants(t)
	ids, first, second := []int{1, 2, 3, 4}, []int{2, 4, 3, 1}, []int{3, 1, 2, 4}
	for active, want := range map[int][]int{
		0: first, 1: second, 2: first, 3: second, 4: first, 9: second, math.MaxInt: second, math.MaxInt - 1: first,
		-1: first, -2: first, -3: first, math.MinInt: first, math.MinInt + 1: first,
	} {
		orders(t, b, active, ids, want...)
		is(t, "Fire", trig.Fire(b, stack.New(), active, api.Dies, ids...), 4)
		s := stack.New()
		trig.Fire(b, s, active, api.Dies, ids...)
		var l []int
		for x := range s.All() {
			l = append(l, x.Obj)
		}
		slices.Reverse(l)
		if !slices.Equal(l, want) {
			t.Errorf("Fire, active %d: %v; want %v", active, l, want)
		}
	}
	three := board(t, []int{0, 1, 2}, [3]int{bear, 0, api.Field}, [3]int{bear, 1, api.Field}, [3]int{bear, 2, api.Field})
	orders(t, three, 4, []int{1, 2, 3}, 2, 3, 1)
	orders(t, three, 5, []int{1, 2, 3}, 3, 1, 2)
	orders(t, three, -2, []int{1, 2, 3}, 1, 2, 3)
}

// Those that there are, each once.
func TestOrderOfOthers(t *testing.T) {
	b := giants(t)
	orders(t, b, 0, []int{1, 1, 4, 1, 4, 1}, 4, 1)
	orders(t, b, 1, []int{0, 9, -1, 1 << 32, math.MinInt, math.MaxInt})
	orders(t, b, 1, []int{9, 2, 0, 1, 9, 2, -1, math.MaxInt, math.MinInt, 1}, 1, 2)
	fires(t, b, 1, api.Dies, []int{9, 2, 0, 1, 9, 2, -1, math.MaxInt, math.MinInt, 1}, trigger(3, 1, 0), trigger(0, 2, 0))
}

// A team that has lost has its place in the order still.
func TestOrderOfLost(t *testing.T) {
	b := board(t, []int{0, 1, 2}, [3]int{ghost, 2, api.Field}, [3]int{ghost, 1, api.Field}, [3]int{ghost, 0, api.Field})
	b.Lose(1)
	orders(t, b, 1, []int{1, 2, 3}, 2, 1, 3)
	orders(t, b, 2, []int{1, 2, 3}, 1, 3, 2)
	b.Lose(0)
	b.Lose(2)
	orders(t, b, 1, []int{1, 2, 3}, 2, 1, 3)
}

// What is handed in is neither kept nor written into, nor handed out.
func TestOwnMemory(t *testing.T) {
	b := giants(t)
	ids := []int{1, 2, 2, 9, 3}
	l := trig.Order(b, 0, ids[:4]...)
	trig.Fire(b, stack.New(), 0, api.Dies, ids[:4]...)
	if !slices.Equal(ids, []int{1, 2, 2, 9, 3}) {
		t.Error("the list is now", ids)
	}
	for i := range l {
		l[i] = 7
	}
	if !slices.Equal(ids, []int{1, 2, 2, 9, 3}) {
		t.Error("the list is now", ids)
	}
	sorted := []int{2, 4, 3, 1}
	trig.Order(b, 0, sorted...)[0] = 7
	is(t, "the list's first one", sorted[0], 2)
	orders(t, b, 0, sorted, 2, 4, 3, 1)
}

// Just its card's When is asked: not its zone, nor whose it is.
func TestWould(t *testing.T) {
	whens := map[int]int{land: 0, bear: 0, hare: api.Attacks, ghost: api.Dies, sage: api.Enters, guard: api.Enters, bolt: 0, scheme: 0}
	for n, its := range whens {
		for _, zone := range zones {
			b := board(t, []int{0, 1}, [3]int{n, 1, zone})
			b.Lose(1)
			was := b.Copy()
			for _, when := range []int{-1, 0, 1, 2, 3, 4, 5, 1 << 32, math.MinInt, math.MaxInt} {
				is(t, "Would", trig.Would(b, 1, when), when != api.Never && when == its)
			}
			is(t, "the board is what it was", b.Same(was), true)
		}
	}
}

// Of what there isn't, nothing would fire.
func TestWouldOfNone(t *testing.T) {
	b := giants(t)
	for _, id := range []int{-1, 0, 9, 10, 1 << 32, math.MinInt, math.MaxInt} {
		for when := -1; when <= 4; when++ {
			is(t, "Would", trig.Would(b, id, when), false)
		}
	}
	is(t, "Would", trig.Would(b, 1, api.Dies), true)
	is(t, "Would", trig.Would(b, 8, api.Dies), true)
}
