package deck_test

import (
	"math"
	"slices"
	"testing"

	"hydra/api"
	"hydra/card"
	"hydra/deck"
)

// The places of the cards of a table of all kinds.
const (
	land = iota
	bear
	bolt
	plot
	moor
	twin // the same card as bear
	ruse // the same card as plot
	size
)

func table() []api.Card {
	return []api.Card{
		{Kind: api.Land},
		{Kind: api.Creature, Cost: 2, Power: 2, Tough: 2},
		{Kind: api.Spell, Cost: 3, Terms: []api.Term{{Op: api.Hurt, N: 3, On: api.Any}}},
		{Kind: api.Scheme, Terms: []api.Term{{Op: api.Draw, N: 1}}},
		{Kind: api.Land},
		{Kind: api.Creature, Cost: 2, Power: 2, Tough: 2},
		{Kind: api.Scheme, Terms: []api.Term{{Op: api.Draw, N: 1}}},
	}
}

// plots is a table of so many Schemes.
func plots(n int) []api.Card { return slices.Repeat(table()[plot:plot+1], n) }

// lands is a table of so many Lands.
func lands(n int) []api.Card { return slices.Repeat(table()[:1], n) }

// list is numbers, each so often as the pairs tell.
func list(pairs ...[2]int) []int {
	var l []int
	for _, p := range pairs {
		l = append(l, slices.Repeat([]int{p[0]}, p[1])...)
	}
	return l
}

// with is a list with some numbers more at its end.
func with(l []int, more ...int) []int { return append(slices.Clone(l), more...) }

// outside is numbers that are none of the table's.
func outside() []int { return []int{-1, size, size + 1, 256, math.MaxInt, math.MinInt} }

func TestTable(t *testing.T) {
	bad := api.Card{Kind: api.Creature}
	for _, v := range []struct {
		name string
		l    []api.Card
		want api.Errno
	}{
		{"none", nil, api.OK},
		{"an empty list", []api.Card{}, api.OK},
		{"all kinds", table(), api.OK},
		{"schemes alone", plots(3), api.OK},
		{"60", lands(60), api.OK},
		{"61", lands(61), api.ErrLong},
		{"120", lands(120), api.ErrLong},
		{"the first one may not be", slices.Insert(table(), 0, bad), api.ErrCard},
		{"the last one may not be", append(table(), bad), api.ErrCard},
		{"one between may not be", slices.Insert(table(), 3, bad), api.ErrCard},
		{"one alone may not be", []api.Card{bad}, api.ErrCard},
		{"the 60th may not be", append(lands(59), bad), api.ErrCard},
		{"no kind", append(table(), api.Card{}), api.ErrCard},
		{"a term that may not be", append(table(), api.Card{Kind: api.Spell, Terms: []api.Term{{}}}), api.ErrCard},
		{"61, none may be", make([]api.Card, 61), api.ErrLong},
		{"61, the last one may not be", append(lands(60), bad), api.ErrLong},
	} {
		if e := deck.Table(v.l); e != v.want {
			t.Errorf("%s: %d; want %d", v.name, e, v.want)
		}
	}
}

func TestCheck(t *testing.T) {
	good := list([2]int{land, 5}, [2]int{bear, 4}, [2]int{bolt, 1})
	for _, v := range []struct {
		name string
		l    []int
		want api.Errno
	}{
		{"good", good, api.OK},
		{"none", nil, api.ErrDeck},
		{"an empty list", []int{}, api.ErrDeck},
		{"one Land", list([2]int{land, 1}), api.ErrDeck},
		{"7 Lands", list([2]int{land, 7}), api.ErrDeck},
		{"8 Lands", list([2]int{land, 8}), api.OK},
		{"30 Lands", list([2]int{land, 30}), api.OK},
		{"31 Lands", list([2]int{land, 31}), api.ErrDeck},
		{"8 without a Land", list([2]int{bear, 4}, [2]int{bolt, 4}), api.OK},
		{"7 of three cards", list([2]int{bear, 3}, [2]int{bolt, 3}, [2]int{land, 1}), api.ErrDeck},
		{"30 of three cards", list([2]int{bear, 4}, [2]int{land, 22}, [2]int{bolt, 4}), api.OK},
		{"31 of three cards", list([2]int{bear, 4}, [2]int{land, 23}, [2]int{bolt, 4}), api.ErrDeck},
		{"5 of a Creature", list([2]int{land, 8}, [2]int{bear, 5}), api.ErrDeck},
		{"5 of a Spell", list([2]int{land, 8}, [2]int{bolt, 5}), api.ErrDeck},
		{"5 of a Spell, 4 of a Creature", list([2]int{bear, 4}, [2]int{bolt, 5}), api.ErrDeck},
		{"5 that stand apart", []int{bear, land, bear, land, bear, land, bear, land, bear}, api.ErrDeck},
		{"4 of each of two places", list([2]int{bear, 4}, [2]int{twin, 4}), api.OK},
		{"Lands of two places", list([2]int{land, 6}, [2]int{moor, 6}), api.OK},
		{"a Scheme at the end", with(good, plot), api.ErrDeck},
		{"a Scheme at first", with([]int{plot}, good...), api.ErrDeck},
		{"Schemes alone", list([2]int{plot, 4}, [2]int{ruse, 4}), api.ErrDeck},
	} {
		if e := deck.Check(table(), v.l); e != v.want {
			t.Errorf("%s: %d; want %d", v.name, e, v.want)
		}
	}
}

func TestSchemes(t *testing.T) {
	twice := append(list([2]int{0, 2}, [2]int{1, 2}, [2]int{2, 2}, [2]int{3, 2}, [2]int{4, 2}),
		list([2]int{5, 2}, [2]int{6, 2}, [2]int{7, 2}, [2]int{8, 2}, [2]int{9, 2})...)
	once := make([]int, 21)
	for i := range once {
		once[i] = i
	}
	for _, v := range []struct {
		name  string
		table []api.Card
		l     []int
		want  api.Errno
	}{
		{"none", table(), nil, api.ErrDeck},
		{"an empty list", table(), []int{}, api.ErrDeck},
		{"one", table(), []int{plot}, api.OK},
		{"one twice", table(), []int{plot, plot}, api.OK},
		{"one three times", table(), []int{plot, plot, plot}, api.ErrDeck},
		{"three that stand apart", table(), []int{plot, ruse, plot, ruse, plot}, api.ErrDeck},
		{"two places, each twice", table(), []int{plot, ruse, ruse, plot}, api.OK},
		{"20 once", plots(60), once[:20], api.OK},
		{"20 twice", plots(10), twice, api.OK},
		{"21 once", plots(21), once, api.ErrDeck},
		{"21, the last one once", plots(11), with(twice, 10), api.ErrDeck},
		{"a Land alone", table(), []int{land}, api.ErrDeck},
		{"a Creature alone", table(), []int{bear}, api.ErrDeck},
		{"a Spell alone", table(), []int{bolt}, api.ErrDeck},
		{"a Land at the end", table(), []int{plot, ruse, land}, api.ErrDeck},
		{"a Spell at first", table(), []int{bolt, plot, ruse}, api.ErrDeck},
		{"a seat's deck", table(), list([2]int{land, 8}), api.ErrDeck},
	} {
		if e := deck.Schemes(v.table, v.l); e != v.want {
			t.Errorf("%s: %d; want %d", v.name, e, v.want)
		}
	}
}

// What is wrong with the table is told ahead of the numbers, and those ahead of all else.
func TestOrderOfErrors(t *testing.T) {
	good := list([2]int{land, 8})
	for _, v := range []struct {
		name  string
		table []api.Card
		l     []int
		want  api.Errno
	}{
		{"61 cards", plots(61), good, api.ErrLong},
		{"61 Lands", lands(61), good, api.ErrLong},
		{"61 cards, a number outside", plots(61), []int{-1}, api.ErrLong},
		{"61 cards, one may not be", make([]api.Card, 61), nil, api.ErrLong},
		{"a card may not be", append(table(), api.Card{}), good, api.ErrCard},
		{"a card may not be, another one is taken", append(table(), api.Card{}), []int{plot}, api.ErrCard},
		{"a card may not be, a number outside", append(table(), api.Card{}), []int{99}, api.ErrCard},
		{"a card may not be, no deck", append(table(), api.Card{}), nil, api.ErrCard},
		{"no table", nil, []int{0}, api.ErrRange},
		{"no table, no numbers", nil, nil, api.ErrDeck},
	} {
		if e := deck.Check(v.table, v.l); e != v.want {
			t.Errorf("Check, %s: %d; want %d", v.name, e, v.want)
		}
		if e := deck.Schemes(v.table, v.l); e != v.want {
			t.Errorf("Schemes, %s: %d; want %d", v.name, e, v.want)
		}
	}
}

func TestNumbersOutside(t *testing.T) {
	for _, n := range outside() {
		for _, l := range [][]int{
			nil, list([2]int{land, 8}), list([2]int{land, 31}), list([2]int{bear, 9}), list([2]int{plot, 3}),
			list([2]int{plot, 1}), list([2]int{plot, 21}), list([2]int{plot, 1}, [2]int{land, 8}),
		} {
			for at := range len(l) + 1 {
				x := slices.Insert(slices.Clone(l), at, n)
				if e := deck.Check(table(), x); e != api.ErrRange {
					t.Errorf("Check(%v) = %d", x, e)
				}
				if e := deck.Schemes(table(), x); e != api.ErrRange {
					t.Errorf("Schemes(%v) = %d", x, e)
				}
			}
		}
	}
	if e := deck.Check(table(), list([2]int{size - 1, 8})); e != api.ErrDeck {
		t.Error("the last number of the table:", e)
	}
}

// All decks of so many Lands, Creatures, Spells and Schemes, whichever way they stand.
func TestCheckOfAllCounts(t *testing.T) {
	var counts [4]int
	for counts[land] = 0; counts[land] <= 32; counts[land]++ {
		for counts[bear] = 0; counts[bear] <= 6; counts[bear]++ {
			for counts[bolt] = 0; counts[bolt] <= 6; counts[bolt]++ {
				for counts[plot] = 0; counts[plot] <= 3; counts[plot]++ {
					checkCounts(t, counts)
				}
			}
		}
	}
}

func checkCounts(t *testing.T, counts [4]int) {
	t.Helper()
	var l []int
	for n, often := range counts {
		l = append(l, list([2]int{n, often})...)
	}
	wantDeck, wantPlots := api.ErrDeck, api.ErrDeck
	if len(l) >= 8 && len(l) <= 30 && counts[bear] <= 4 && counts[bolt] <= 4 && counts[plot] == 0 {
		wantDeck = api.OK
	}
	if len(l) == counts[plot] && len(l) >= 1 && len(l) <= 2 {
		wantPlots = api.OK
	}
	for range 2 {
		if e := deck.Check(table(), l); e != wantDeck {
			t.Errorf("Check(%v) = %d; want %d", l, e, wantDeck)
		}
		if e := deck.Schemes(table(), l); e != wantPlots {
			t.Errorf("Schemes(%v) = %d; want %d", l, e, wantPlots)
		}
		slices.Reverse(l)
	}
}

func TestOf(t *testing.T) {
	mixed := []int{plot, bear, land, bolt, bear, moor, -1, size, twin, ruse, math.MaxInt, math.MinInt, land}
	for _, v := range []struct {
		name  string
		l     []int
		kinds []int
		want  []int
	}{
		{"Lands", mixed, []int{api.Land}, []int{land, moor, land}},
		{"Creatures", mixed, []int{api.Creature}, []int{bear, bear, twin}},
		{"Spells", mixed, []int{api.Spell}, []int{bolt}},
		{"Schemes", mixed, []int{api.Scheme}, []int{plot, ruse}},
		{"two kinds", mixed, []int{api.Spell, api.Creature}, []int{bear, bolt, bear, twin}},
		{"a kind told twice", mixed, []int{api.Spell, api.Spell}, []int{bolt}},
		{"all kinds", mixed, []int{1, 2, 3, 4}, []int{plot, bear, land, bolt, bear, moor, twin, ruse, land}},
		{"no kinds", mixed, nil, nil},
		{"kinds that are none", mixed, []int{0, 5, -1, math.MaxInt}, nil},
		{"one that is none, and Spells", mixed, []int{5, api.Spell}, []int{bolt}},
		{"no deck", nil, []int{api.Land}, nil},
		{"none of the kind", []int{land, bear}, []int{api.Spell}, nil},
		{"numbers that are none alone", outside(), []int{1, 2, 3, 4}, nil},
	} {
		if l := slices.Collect(deck.Of(table(), v.l, v.kinds...)); !slices.Equal(l, v.want) {
			t.Errorf("%s: %v; want %v", v.name, l, v.want)
		}
	}
	if l := slices.Collect(deck.Of(nil, []int{0, 1}, 0, 1, 2)); len(l) != 0 {
		t.Error("no table:", l)
	}
}

// Of asks neither the table nor the deck whether they may be.
func TestOfCardsThatMayNotBe(t *testing.T) {
	odd := append(lands(61), api.Card{Kind: api.Creature}, api.Card{Kind: 7}, api.Card{})
	if l := slices.Collect(deck.Of(odd, []int{60, 61, 62, 63, 64}, api.Land, api.Creature)); !slices.Equal(l, []int{60, 61}) {
		t.Error(l)
	}
}

func TestOfEndsWhenNoMoreIsAskedFor(t *testing.T) {
	all := deck.Of(table(), []int{land, bear, moor, bolt, land, moor}, api.Land)
	for asked := 1; asked <= 4; asked++ {
		var l []int
		for n := range all {
			if l = append(l, n); len(l) == asked {
				break
			}
		}
		want := []int{land, moor, land, moor}[:asked]
		if !slices.Equal(l, want) {
			t.Errorf("asked for %d: %v; want %v", asked, l, want)
		}
	}
	calls := 0
	all(func(int) bool { calls++; return false })
	if calls != 1 {
		t.Error("told on to one that asks for no more:", calls)
	}
}

func TestOfSharesNothing(t *testing.T) {
	cards, l, kinds := table(), []int{bear, land, bolt, bear}, []int{api.Creature}
	all := deck.Of(cards, l, kinds...)
	l[0], l[2], l[3] = land, bear, plot
	cards[bear].Kind = api.Land
	kinds[0] = api.Land
	for range 2 {
		if got := slices.Collect(all); !slices.Equal(got, []int{bear, bear}) {
			t.Error("what is told hangs on what became of the arguments:", got)
		}
	}
}

func TestWorth(t *testing.T) {
	for _, v := range []struct {
		name string
		l    []int
		want int
	}{
		{"none", nil, 0},
		{"Lands", []int{land, moor, land}, 0},
		{"a Creature", []int{bear}, 2},
		{"a Spell", []int{bolt}, 3},
		{"a Scheme", []int{plot}, 0},
		{"some", []int{land, bear, bolt, bear, plot, twin}, 9},
		{"with numbers that are none", append(outside(), bear, bolt), 5},
		{"numbers that are none alone", outside(), 0},
		{"five of one", list([2]int{bolt, 5}), 15},
	} {
		if n := deck.Worth(table(), v.l); n != v.want {
			t.Errorf("%s: %d; want %d", v.name, n, v.want)
		}
	}
	if n := deck.Worth(nil, []int{0}); n != 0 {
		t.Error("no table:", n)
	}
	// Cards that may not be have a cost, too, if they are of one of api's kinds.
	odd := []api.Card{{Kind: api.Land, Cost: 1}, {Kind: api.Creature, Cost: 20}, {Kind: api.Spell, Cost: 300}, {Kind: api.Scheme, Cost: 4000}, {Kind: 5, Cost: 50000}, {Cost: 600000}, {Kind: -1, Cost: 7000000}}
	if n := deck.Worth(odd, []int{0, 1, 2, 3, 4, 5, 6}); n != 4321 {
		t.Error(n)
	}
}

func TestNoArgumentIsWrittenInto(t *testing.T) {
	cards, good, schemes := table(), list([2]int{bear, 4}, [2]int{land, 4}), []int{ruse, plot}
	kinds := []int{api.Spell, api.Land}
	deck.Table(cards)
	deck.Check(cards, good)
	deck.Schemes(cards, schemes)
	deck.Count(good)
	deck.Most(good)
	for range deck.Of(cards, good, kinds...) {
	}
	deck.Worth(cards, good)
	if !slices.EqualFunc(cards, table(), card.Same) {
		t.Error("table:", cards)
	}
	if !slices.Equal(good, list([2]int{bear, 4}, [2]int{land, 4})) || !slices.Equal(schemes, []int{ruse, plot}) || !slices.Equal(kinds, []int{api.Spell, api.Land}) {
		t.Error(good, schemes, kinds)
	}
}
