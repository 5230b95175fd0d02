package deal_test

import (
	"math"
	"slices"
	"strings"
	"testing"

	"hydra/deal"
)

// shuffled asks what comes of a list, and that the list stays what it is.
func shuffled[T comparable](t *testing.T, d *deal.Draws, l, want []T) {
	t.Helper()
	was := slices.Clone(l)
	if x := deal.Shuffle(d, l); !slices.Equal(x, want) {
		t.Errorf("Shuffle(%v) = %v; want %v", l, x, want)
	}
	if !slices.Equal(l, was) {
		t.Errorf("Shuffle wrote into the list: %v; it was %v", l, was)
	}
}

func TestShuffle(t *testing.T) {
	abc := []string{"a", "b", "c"}
	for _, v := range []struct {
		draws []int
		want  string
	}{
		{[]int{0, 0}, "b c a"},
		{[]int{0, 1}, "c b a"},
		{[]int{1, 0}, "c a b"},
		{[]int{1, 1}, "a c b"},
		{[]int{2, 0}, "b a c"},
		{[]int{2, 1}, "a b c"},
		{[]int{-1, -1}, "a b c"},
		{[]int{-3, 5}, "c b a"},
		{[]int{math.MaxInt, math.MinInt}, "c a b"},
		{[]int{2}, "b a c"},
		{nil, "b c a"},
	} {
		d := deal.New(v.draws...)
		shuffled(t, d, abc, strings.Fields(v.want))
		stands(t, d, 2, 0)
	}
	shuffled(t, deal.New(1, 0, 1), []int{1, 2, 3, 4}, []int{3, 4, 1, 2})
	shuffled(t, deal.New(0), []bool{true, false}, []bool{false, true})
	shuffled(t, deal.New(0, 0), []int{5, 5, 6}, []int{5, 6, 5})
	shuffled(t, deal.New(2, 0), [][2]int{{1}, {2}, {3}}, [][2]int{{2}, {1}, {3}})
}

// One draw less than the list is long, from the next one on.
func TestShuffleTakesDraws(t *testing.T) {
	for n := range 40 {
		d := deal.New(make([]int, 100)...)
		d.Below(1)
		deal.Shuffle(d, make([]int, n))
		taken := 1 + max(n-1, 0)
		stands(t, d, taken, 100-taken)
	}
	d := deal.New(3, 2, 2, 1)
	below(t, d, 4, 3)
	shuffled(t, d, []int{1, 2, 3}, []int{2, 1, 3})
	stands(t, d, 3, 1)
	below(t, d, 4, 1)
}

func TestShuffleOfFewerThanTwo(t *testing.T) {
	d := deal.New(1, 2)
	shuffled(t, d, nil, []int{})
	shuffled(t, d, []string{}, nil)
	shuffled(t, d, []string{"a"}, []string{"a"})
	stands(t, d, 0, 2)
}

func TestShuffledIsOnesOwn(t *testing.T) {
	for _, l := range [][]int{{1}, {1, 2}, {1, 2, 3}} {
		was := slices.Clone(l)
		// Draws by which each stays where it is.
		x := deal.Shuffle(deal.New(-1, -1), l)
		for i := range x {
			x[i] = 99
		}
		if !slices.Equal(l, was) {
			t.Error(l)
		}
	}
	whole := []int{1, 2, 3, 4}
	x := deal.Shuffle(deal.New(0), whole[:2])
	_ = append(x, 99)
	if !slices.Equal(whole, []int{1, 2, 3, 4}) {
		t.Error(whole)
	}
}

// draws is all draws for a list of so many: each below one more than its place, from the last one down.
func draws(n int) [][]int {
	all := [][]int{nil}
	for i := n - 1; i > 0; i-- {
		var longer [][]int
		for _, l := range all {
			for x := range i + 1 {
				longer = append(longer, append(slices.Clone(l), x))
			}
		}
		all = longer
	}
	return all
}

// By its draws each order comes about, and just one way.
func TestShuffleToEachOrderOneWay(t *testing.T) {
	for n := range 7 {
		var got [][]int
		for _, l := range draws(n) {
			got = append(got, deal.Shuffle(deal.New(l...), count(n)))
		}
		slices.SortFunc(got, slices.Compare)
		same(t, got, orders(count(n)))
	}
}

func TestPick(t *testing.T) {
	l := []string{"a", "b", "c"}
	for _, v := range []struct {
		draw int
		want string
	}{
		{0, "a"}, {1, "b"}, {2, "c"}, {3, "a"}, {4, "b"}, {-1, "c"}, {-3, "a"}, {math.MinInt, "b"}, {math.MaxInt, "b"},
	} {
		d := deal.New(v.draw, 1)
		if x, ok := deal.Pick(d, l); x != v.want || !ok {
			t.Errorf("draw %d: Pick = %q, %t; want %q", v.draw, x, ok, v.want)
		}
		stands(t, d, 1, 1)
	}
	d := deal.New()
	if x, ok := deal.Pick(d, l); x != "a" || !ok {
		t.Error(x, ok)
	}
	stands(t, d, 1, 0)
	if !slices.Equal(l, []string{"a", "b", "c"}) {
		t.Error(l)
	}
}

// Of one alone a draw is taken; of none it isn't.
func TestPickOfFew(t *testing.T) {
	d := deal.New(5, 6)
	if x, ok := deal.Pick(d, []int{8}); x != 8 || !ok {
		t.Error(x, ok)
	}
	stands(t, d, 1, 1)
	for _, l := range [][]int{nil, {}} {
		if x, ok := deal.Pick(d, l); x != 0 || ok {
			t.Error(x, ok)
		}
	}
	if x, ok := deal.Pick(d, [][2]int{}); x != [2]int{} || ok {
		t.Error(x, ok)
	}
	stands(t, d, 1, 1)
}
