package deal_test

import (
	"math"
	"testing"

	"hydra/deal"
)

// stands asks how many draws were taken, and how many are left.
func stands(t *testing.T, d *deal.Draws, taken, left int) {
	t.Helper()
	if d.Taken() != taken || d.Left() != left {
		t.Errorf("taken %d, left %d; want %d, %d", d.Taken(), d.Left(), taken, left)
	}
}

// below draws below a number.
func below(t *testing.T, d *deal.Draws, n, want int) {
	t.Helper()
	if x := d.Below(n); x != want {
		t.Errorf("Below(%d) = %d; want %d", n, x, want)
	}
}

func TestBelow(t *testing.T) {
	for _, v := range []struct{ draw, n, want int }{
		{0, 1, 0}, {0, 2, 0}, {0, math.MaxInt, 0},
		{1, 1, 0}, {1, 2, 1}, {1, 3, 1},
		{2, 3, 2}, {3, 3, 0}, {4, 3, 1}, {7, 3, 1}, {6, 7, 6}, {7, 7, 0}, {300, 7, 6},
		{-1, 1, 0}, {-1, 2, 1}, {-1, 3, 2}, {-2, 3, 1}, {-3, 3, 0}, {-4, 3, 2}, {-6, 3, 0}, {-7, 3, 2},
		{-1, math.MaxInt, math.MaxInt - 1},
		{math.MaxInt, 10, 7}, {math.MinInt, 10, 2}, {math.MinInt, 1, 0}, {math.MinInt, 2, 0},
		{math.MaxInt, math.MaxInt, 0}, {math.MaxInt - 1, math.MaxInt, math.MaxInt - 1},
		{math.MinInt, math.MaxInt, math.MaxInt - 1},
		{5, 0, 0}, {5, -1, 0}, {5, -3, 0}, {-5, -3, 0}, {5, math.MinInt, 0}, {math.MinInt, -1, 0},
	} {
		d := deal.New(v.draw, 1)
		if x := d.Below(v.n); x != v.want {
			t.Errorf("draw %d: Below(%d) = %d; want %d", v.draw, v.n, x, v.want)
		}
		stands(t, d, 1, 1)
	}
}

func TestBelowOfAllSmallNumbers(t *testing.T) {
	for n := 1; n <= 9; n++ {
		want := 0
		for draw := -9 * n; draw <= 9*n; draw++ {
			below(t, deal.New(draw), n, want)
			want = (want + 1) % n
		}
	}
}

// One by one, in their order; behind the last one each is 0, and is taken as well.
func TestDrawsOneByOne(t *testing.T) {
	d := deal.New(7, -1, 5, 0, 9)
	stands(t, d, 0, 5)
	for i, want := range []int{7, 9, 5, 0, 9, 0, 0, 0} {
		below(t, d, 10, want)
		stands(t, d, i+1, max(4-i, 0))
	}
}

// A draw below 1 is taken all the same.
func TestDrawBelowOneIsTaken(t *testing.T) {
	d := deal.New(4, 5, 6, 7)
	below(t, d, 0, 0)
	below(t, d, -2, 0)
	stands(t, d, 2, 2)
	below(t, d, 10, 6)
	below(t, d, 1, 0)
	stands(t, d, 4, 0)
	below(t, d, 0, 0)
	stands(t, d, 5, 0)
}

func TestNoDraws(t *testing.T) {
	for _, d := range []*deal.Draws{deal.New(), deal.New([]int{}...), deal.New(nil...), new(deal.Draws)} {
		stands(t, d, 0, 0)
		for i := range 3 {
			below(t, d, 4, 0)
			stands(t, d, i+1, 0)
		}
	}
}

// What was handed in is neither kept nor written into.
func TestDrawsAreTheirOwn(t *testing.T) {
	l := []int{1, 2, 3, 4}
	d := deal.New(l...)
	l[0], l[1] = 8, 9
	below(t, d, 10, 1)
	below(t, d, 10, 2)
	l[2] = 7
	below(t, d, 10, 3)
	if l[0] != 8 || l[1] != 9 || l[2] != 7 || l[3] != 4 {
		t.Error(l)
	}
}

func TestCopy(t *testing.T) {
	d := deal.New(1, 2, 3)
	below(t, d, 10, 1)
	c := d.Copy()
	stands(t, c, 1, 2)
	below(t, c, 10, 2)
	below(t, c, 10, 3)
	below(t, c, 10, 0)
	stands(t, c, 4, 0)
	stands(t, d, 1, 2)
	below(t, d, 10, 2)
	stands(t, d, 2, 1)
	stands(t, c, 4, 0)
	c = c.Copy()
	stands(t, c, 4, 0)
	below(t, c, 10, 0)
	stands(t, c, 5, 0)
	below(t, d, 10, 3)
}

func TestNilDraws(t *testing.T) {
	var d *deal.Draws
	for _, n := range []int{5, 1, 0, -1, math.MaxInt, math.MinInt} {
		below(t, d, n, 0)
		stands(t, d, 0, 0)
	}
	if c := d.Copy(); c != nil {
		t.Error(c)
	}
	if x, ok := deal.Pick(d, []int{4, 5}); x != 4 || !ok {
		t.Error(x, ok)
	}
	if x, ok := deal.Pick(d, []int{}); x != 0 || ok {
		t.Error(x, ok)
	}
	shuffled(t, d, []int{1, 2, 3, 4}, []int{2, 3, 4, 1})
	shuffled(t, d, []int{}, nil)
	stands(t, d, 0, 0)
}
