package deal_test

import (
	"math"
	"slices"
	"testing"

	"hydra/deal"
)

// count is the numbers from 0 on.
func count(n int) []int {
	l := make([]int, n)
	for i := range l {
		l[i] = i
	}
	return l
}

// orders is what Perms is to tell, by its words: each place comes first, the earlier ones first, then all orders of the others.
func orders[T any](l []T) [][]T {
	if len(l) == 0 {
		return [][]T{nil}
	}
	var all [][]T
	for i := range l {
		for _, rest := range orders(slices.Concat(l[:i], l[i+1:])) {
			all = append(all, slices.Concat(l[i:i+1], rest))
		}
	}
	return all
}

// same asks whether lists are those wanted, one by one.
func same[T comparable](t *testing.T, got, want [][]T) {
	t.Helper()
	if !slices.EqualFunc(got, want, slices.Equal) {
		t.Errorf("%v; want %v", got, want)
	}
}

// perms asks for all orders of a list.
func perms[T comparable](t *testing.T, l []T) {
	t.Helper()
	same(t, slices.Collect(deal.Perms(l)), orders(l))
}

func TestPerms(t *testing.T) {
	same(t, slices.Collect(deal.Perms([]string{"a", "b", "c"})), [][]string{
		{"a", "b", "c"}, {"a", "c", "b"}, {"b", "a", "c"}, {"b", "c", "a"}, {"c", "a", "b"}, {"c", "b", "a"},
	})
	for n := range 9 {
		perms(t, count(n))
	}
	perms(t, []bool{true, false})
	perms(t, [][2]int{{1, 2}, {2, 1}, {0, 0}})
}

// By the places: neither how great what stands there is, nor whether it is there twice, changes anything.
func TestPermsByPlaces(t *testing.T) {
	perms(t, []int{9, 3, 7, 1})
	perms(t, []int{3, 3})
	perms(t, []int{3, 3, 1, 3})
	perms(t, []float64{math.Inf(1), 0, -1})
	n := 0
	for range deal.Perms(make([]func(), 5)) {
		n++
	}
	if n != 120 {
		t.Error(n)
	}
}

func TestPermsOfFew(t *testing.T) {
	same(t, slices.Collect(deal.Perms([]int(nil))), [][]int{{}})
	same(t, slices.Collect(deal.Perms([]int{})), [][]int{{}})
	same(t, slices.Collect(deal.Perms([]int{4})), [][]int{{4}})
	same(t, slices.Collect(deal.Perms([]int{4, 2})), [][]int{{4, 2}, {2, 4}})
}

func TestPermsAsFarAsAsked(t *testing.T) {
	for stop := 1; stop <= 24; stop++ {
		var got [][]int
		for p := range deal.Perms(count(4)) {
			got = append(got, p)
			if len(got) == stop {
				break
			}
		}
		same(t, got, orders(count(4))[:stop])
	}
	// Just as many are made as are asked for.
	n := 100000
	want := count(n)
	asked := 0
	for p := range deal.Perms(count(n)) {
		if !slices.Equal(p, want) {
			t.Fatal("order", asked)
		}
		if asked++; asked == 2 {
			break
		}
		want[n-2], want[n-1] = n-1, n-2
	}
}

// Each list is its own: what is done to one is seen in no other, and in nothing that is told later.
func TestPermsAreTheirOwn(t *testing.T) {
	l := count(4)
	i := 0
	for p := range deal.Perms(l) {
		if !slices.Equal(p, orders(count(4))[i]) {
			t.Error(i, p)
		}
		_ = append(p, 99)
		for j := range p {
			p[j] = 99
		}
		i++
	}
	if i != 24 || !slices.Equal(l, count(4)) {
		t.Error(i, l)
	}
	all := slices.Collect(deal.Perms(l))
	for i, p := range all {
		was := slices.Clone(p)
		for _, other := range all[i+1:] {
			_ = append(other, 98)
			other[0] += 100
		}
		if !slices.Equal(p, was) {
			t.Error(p, was)
		}
		for _, other := range all[i+1:] {
			other[0] -= 100
		}
	}
	alone := []int{4}
	for p := range deal.Perms(alone) {
		p[0] = 99
	}
	if alone[0] != 4 {
		t.Error(alone)
	}
}

// The list may change ahead of the orders, and between them.
func TestPermsOfListThatChanges(t *testing.T) {
	l := count(3)
	seq := deal.Perms(l)
	l[0] = 99
	var got [][]int
	for p := range seq {
		got = append(got, p)
		l[1], l[2] = 98, 97
	}
	same(t, got, orders(count(3)))
}

// They may be asked for more than once, and one within another.
func TestPermsAgain(t *testing.T) {
	seq := deal.Perms(count(3))
	for range seq {
		break
	}
	n := 0
	for p := range seq {
		if !slices.Equal(p, orders(count(3))[n]) {
			t.Error(n, p)
		}
		same(t, slices.Collect(seq), orders(count(3)))
		n++
	}
	if n != 6 {
		t.Error(n)
	}
}
