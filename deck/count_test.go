package deck_test

import (
	"maps"
	"math"
	"testing"

	"hydra/deck"
)

// counts asks how often each is there.
func counts[T comparable](t *testing.T, l []T, want map[T]int) {
	t.Helper()
	if m := deck.Count(l); !maps.Equal(m, want) {
		t.Errorf("Count(%v) = %v; want %v", l, m, want)
	}
}

// most asks which is there most often, and how often.
func most[T comparable](t *testing.T, l []T, want T, often int) {
	t.Helper()
	if x, n := deck.Most(l); x != want || n != often {
		t.Errorf("Most(%v) = %v, %d; want %v, %d", l, x, n, want, often)
	}
}

func TestCount(t *testing.T) {
	counts(t, nil, map[int]int{})
	counts(t, []int{}, map[int]int{})
	counts(t, []int{0}, map[int]int{0: 1})
	counts(t, []int{3, -1, 3, 0, 3, -1}, map[int]int{3: 3, -1: 2, 0: 1})
	counts(t, []string{"a", "", "b", "a", ""}, map[string]int{"a": 2, "": 2, "b": 1})
	counts(t, []bool{true, true, false}, map[bool]int{true: 2, false: 1})
	counts(t, [][2]int{{1, 2}, {2, 1}, {1, 2}}, map[[2]int]int{{1, 2}: 2, {2, 1}: 1})
	counts(t, []any{1, "1", 1, nil, 1.0, nil}, map[any]int{1: 2, "1": 1, 1.0: 1, nil: 2})
}

func TestCountIsOnesOwn(t *testing.T) {
	l := []int{1, 1, 2}
	m := deck.Count(l)
	m[1], m[7] = 99, 99
	counts(t, l, map[int]int{1: 2, 2: 1})
}

func TestMost(t *testing.T) {
	most(t, nil, 0, 0)
	most(t, []string{}, "", 0)
	most(t, []int{7}, 7, 1)
	most(t, []int{-3, 5, 5}, 5, 2)
	most(t, []int{5, 5, -3}, 5, 2)
	most(t, []int{0, 1, 0}, 0, 2)
	most(t, []bool{true, false, false}, false, 2)
	most(t, [][2]int{{1, 2}, {2, 1}, {2, 1}}, [2]int{2, 1}, 2)
	most(t, []any{nil, "x", nil}, nil, 2)
}

// Of several the one that comes first: by where it begins, not by its size, nor by where it ends.
func TestMostOfSeveral(t *testing.T) {
	most(t, []int{9, 4, 7}, 9, 1)
	most(t, []int{4, 9, 7}, 4, 1)
	most(t, []int{9, 4, 4, 9}, 9, 2)
	most(t, []int{4, 9, 9, 4}, 4, 2)
	most(t, []int{1, 9, 4, 4, 9}, 9, 2)
	most(t, []string{"c", "b", "b", "a", "a", "c", "d"}, "c", 2)
	// What a map tells first changes from time to time.
	l := make([]int, 0, 200)
	for i := range 100 {
		l = append(l, 99-i)
	}
	for i := range 100 {
		l = append(l, i)
	}
	for range 50 {
		most(t, l, 99, 2)
	}
}

// A value that isn't equal to itself is there once each time.
func TestCountsOfNoNumber(t *testing.T) {
	nan := math.NaN()
	l := []float64{nan, 1, nan}
	m := deck.Count(l)
	if len(m) != 3 || m[1] != 1 {
		t.Error(m)
	}
	for _, n := range m {
		if n != 1 {
			t.Error(m)
		}
	}
	if x, n := deck.Most(l); !math.IsNaN(x) || n != 1 {
		t.Error(x, n)
	}
	most(t, []float64{nan, 2, nan, 2}, 2, 2)
}

// Values that can't be compared come about behind an interface only: nothing is counted then.
func TestCountOfWhatCannotBeCompared(t *testing.T) {
	for _, l := range [][]any{{[]int{1}}, {1, 1, []int{1}}, {map[int]int{}, 1}, {func() {}}} {
		if m := deck.Count(l); len(m) != 0 {
			t.Error(m)
		}
		if x, n := deck.Most(l); x != nil || n != 0 {
			t.Error(x, n)
		}
	}
}
