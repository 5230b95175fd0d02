package effect_test

import (
	"math"
	"slices"
	"testing"

	"hydra/api"
	"hydra/effect"
)

// libraries is a board of two seats: seat 1 has some cards in its Library, 1 on top; seat 0 has one, and each of them one in hand.
func libraries(t *testing.T, cards int) *effect.Board {
	t.Helper()
	l := slices.Repeat([][3]int{{land, 1, api.Library}}, cards)
	l = append(l, [3]int{bear, 0, api.Library}, [3]int{bear, 0, api.InHand}, [3]int{bear, 1, api.InHand})
	return board(t, []int{0, 1}, l...)
}

// The chapter's example.
func TestDrawLastAndDry(t *testing.T) {
	for _, draw := range []func(b *effect.Board) bool{
		func(b *effect.Board) bool { return b.Draw(1, 2) == 1 },
		func(b *effect.Board) bool { return b.Do(1, api.Term{Op: api.Draw, N: 2}, 0) },
		func(b *effect.Board) bool { return b.All(1, 0, api.Term{Op: api.Draw, N: 2}) == 1 },
	} {
		b := libraries(t, 1)
		is(t, "draws", draw(b), true)
		are(t, b, 1, api.InHand, 1, 4)
		are(t, b, 1, api.Library)
		is(t, "Dry(1)", b.Dry(1), true)
		is(t, "Dry(0)", b.Dry(0), false)
	}
}

// The top comes first, and the last one that was drawn is the top of the hand; nothing else changes.
func TestDrawOrder(t *testing.T) {
	for _, n := range []int{1, 2, 3, 4} {
		a, b := libraries(t, 4), libraries(t, 4)
		want := a.Copy()
		for id := 1; id <= n; id++ {
			want.Move(id, api.InHand, false)
		}
		is(t, "Draw", a.Draw(1, n), n)
		is(t, "Do", b.Do(1, api.Term{Op: api.Draw, N: n}, 0), true)
		is(t, "Same", a.Same(want), true)
		is(t, "Same", b.Same(want), true)
		are(t, a, 1, api.InHand, append([]int{4, 3, 2, 1}[4-n:], 7)...)
		are(t, a, 1, api.Library, []int{1, 2, 3, 4}[n:]...)
		is(t, "Dry", a.Dry(1), false)
	}
}

// Nothing to draw is no draw: nobody is dry by that.
func TestDrawNone(t *testing.T) {
	for _, cards := range []int{0, 3} {
		b := libraries(t, cards)
		was := b.Copy()
		for _, n := range []int{0, -1, -100, math.MinInt} {
			is(t, "Draw", b.Draw(1, n), 0)
		}
		// A term that draws none is done all the same.
		does(t, b, was, 1, api.Term{Op: api.Draw}, 0)
	}
}

func TestDrawMost(t *testing.T) {
	for _, c := range []struct {
		cards, n, drawn int
		dry             bool
	}{
		{99, 99, 99, false}, {99, 100, 99, true}, {99, 101, 99, true}, {100, 99, 99, false}, {100, 100, 100, false}, {100, 101, 100, false},
		{100, math.MaxInt, 100, false}, {99, math.MaxInt, 99, true}, {120, 100, 100, false}, {120, 101, 100, false}, {120, 999, 100, false},
		{0, 1, 0, true}, {0, math.MaxInt, 0, true}, {20, 20, 20, false}, {20, 21, 20, true},
	} {
		b := libraries(t, c.cards)
		is(t, "Draw", b.Draw(1, c.n), c.drawn)
		is(t, "Dry", b.Dry(1), c.dry)
		is(t, "left", len(b.Store.In(1, api.Library)), c.cards-c.drawn)
		is(t, "hand", len(b.Store.In(1, api.InHand)), c.drawn+1)
		are(t, b, 0, api.InHand, c.cards+2)
		are(t, b, 0, api.Library, c.cards+1)
	}
}

// Dry stays who was, till none is; each for itself, mates too.
func TestDryAndWet(t *testing.T) {
	b := board(t, []int{0, 0, 1, 1}, [3]int{land, 1, api.Library}, [3]int{land, 3, api.Library})
	dry := func(want ...bool) {
		t.Helper()
		for seat, x := range want {
			is(t, "Dry", b.Dry(seat), x)
		}
	}
	dry(false, false, false, false)
	b.Draw(1, 1)
	dry(false, false, false, false)
	b.Draw(1, 1)
	b.Draw(2, 1)
	dry(false, true, true, false)
	// A card that comes later makes no seat wet, nor does a draw of it.
	b.Move(1, api.Library, false)
	dry(false, true, true, false)
	is(t, "Draw", b.Draw(1, 1), 1)
	dry(false, true, true, false)
	b.Draw(3, 2)
	b.Do(0, api.Term{Op: api.Draw, N: 1}, 0)
	dry(true, true, true, true)
	want := board(t, []int{0, 0, 1, 1}, [3]int{land, 1, api.Library}, [3]int{land, 3, api.Library})
	want.Move(1, api.InHand, false)
	want.Move(2, api.InHand, false)
	is(t, "Same", b.Same(want), false)
	b.Wet()
	dry(false, false, false, false)
	is(t, "Same", b.Same(want), true)
	b.Wet()
	is(t, "Same", b.Same(want), true)
	b.Draw(3, 1)
	dry(false, false, false, true)
}
