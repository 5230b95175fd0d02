package stat_test

import (
	"slices"
	"testing"

	"hydra/api"
	"hydra/object"
	"hydra/stat"
)

// many is a store with objects of all kinds on the Field and beside it; 1, 3, 5, 6 and 9 are the Creatures on the Field.
func many(t *testing.T) *object.Store {
	t.Helper()
	s := onField(t, bear)
	for _, x := range [][3]int{
		{land, 0, api.Field}, {wall, 0, api.Field}, {bear, 0, api.InHand}, {giant, 0, api.Field}, {bear, 0, api.Field},
		{spell, 0, api.Field}, {scheme, 1, api.Field}, {giant, 1, api.Field}, {bear, 1, api.Stack}, {wall, 0, api.Grave},
	} {
		add(t, s, x[0], x[1], x[2])
	}
	return s
}

// told asks what Strong tells of some owners, however far it is gone over.
func told(t *testing.T, s *object.Store, owners []int, want ...[2]int) {
	t.Helper()
	asked := slices.Clone(owners)
	seq := stat.Strong(s, asked...)
	for most := 1; most <= len(want)+1; most++ {
		var got [][2]int
		for id, power := range seq {
			if got = append(got, [2]int{id, power}); len(got) == most {
				break
			}
		}
		if !slices.Equal(got, want[:min(most, len(want))]) {
			t.Errorf("Strong(%v), %d of it: %v; want %v", owners, most, got, want)
		}
	}
	if !slices.Equal(asked, owners) {
		t.Error("Strong wrote into its argument:", asked)
	}
}

func TestStrong(t *testing.T) {
	s := many(t)
	was := s.Copy()
	told(t, s, nil, [2]int{1, 2}, [2]int{3, 0}, [2]int{5, 20}, [2]int{6, 2}, [2]int{9, 20})
	told(t, s, []int{}, [2]int{1, 2}, [2]int{3, 0}, [2]int{5, 20}, [2]int{6, 2}, [2]int{9, 20})
	told(t, s, []int{0}, [2]int{3, 0}, [2]int{5, 20}, [2]int{6, 2})
	told(t, s, []int{1}, [2]int{1, 2}, [2]int{9, 20})
	told(t, s, []int{1, 0}, [2]int{1, 2}, [2]int{3, 0}, [2]int{5, 20}, [2]int{6, 2}, [2]int{9, 20})
	told(t, s, []int{1, 1, 7}, [2]int{1, 2}, [2]int{9, 20})
	for _, seat := range []int{-1, 2, 3, 4, 100} {
		told(t, s, []int{seat})
	}
	isSame(t, "Strong", s, was)
}

// The order is that of the Field, from the top on.
func TestStrongInTheOrderOfTheField(t *testing.T) {
	s := many(t)
	tells(t, "Lay", s.Lay(0, api.Field, []int{9, 8, 6, 2, 1, 7, 5, 3}), api.OK)
	told(t, s, nil, [2]int{9, 20}, [2]int{6, 2}, [2]int{1, 2}, [2]int{5, 20}, [2]int{3, 0})
	s.Move(4, api.Field, false)
	s.Move(6, api.Field, true)
	told(t, s, []int{0}, [2]int{4, 2}, [2]int{5, 20}, [2]int{3, 0}, [2]int{6, 2})
	s.Move(5, api.Exile, false)
	told(t, s, []int{0}, [2]int{4, 2}, [2]int{3, 0}, [2]int{6, 2})
}

// The powers are those of all layers; who is to die, and who is tapped or sick, is told, too.
func TestStrongByItsLayers(t *testing.T) {
	s := many(t)
	numbered(t, s, 1, 9, 1, 2)
	numbered(t, s, 3, 0, -7, 4)
	numbered(t, s, 5, 0, 999, -9)
	numbered(t, s, 6, 2, -999, 0)
	numbered(t, s, 2, 0, 5, 5)
	marked(t, s, 9)
	told(t, s, nil, [2]int{1, 5}, [2]int{3, 4}, [2]int{5, 990}, [2]int{6, 0}, [2]int{9, 20})
	for id, power := range stat.Strong(s) {
		if p := stat.Power(s, id); p != power {
			t.Errorf("Power(%d) = %d; Strong told %d", id, p, power)
		}
	}
}

// Each time it tells what is so when it begins, whatever happens while it does.
func TestStrongWhileAllChanges(t *testing.T) {
	s := many(t)
	owners := []int{0}
	seq := stat.Strong(s, owners...)
	owners[0] = 1
	stat.Boost(s, 6, 1)
	var got [][2]int
	for id, power := range seq {
		got = append(got, [2]int{id, power})
		stat.Boost(s, 5, 7)
		s.Move(6, api.Grave, false)
		s.Move(4, api.Field, true)
	}
	if !slices.Equal(got, [][2]int{{3, 0}, {5, 20}, {6, 3}}) {
		t.Error("changed:", got)
	}
	got = nil
	for id, power := range seq {
		got = append(got, [2]int{id, power})
	}
	if !slices.Equal(got, [][2]int{{3, 0}, {5, 41}, {4, 2}}) {
		t.Error("again:", got)
	}
}

func TestFade(t *testing.T) {
	s := many(t)
	for id := range s.Len() {
		marked(t, s, id+1)
	}
	numbered(t, s, 1, 3, 4, 5)
	numbered(t, s, 2, 1, 1, 0) // a Land
	numbered(t, s, 3, 0, 1, -2)
	numbered(t, s, 4, 3, 4, 5) // in a hand
	numbered(t, s, 5, 0, 7, 0)
	numbered(t, s, 6, 2, 0, 0)
	numbered(t, s, 8, 0, -1, 1) // a Scheme
	numbered(t, s, 9, -1, -3, 0)
	numbered(t, s, 10, 1, 1, 1) // on the Stack
	numbered(t, s, 11, 1, 1, 1) // in a Grave
	s.Lay(0, api.Field, []int{9, 8, 6, 2, 1, 7, 5, 3})
	want := s.Copy()
	for id, count := range map[int]int{1: 4, 2: 1, 3: 1, 6: 0, 8: -1, 9: -3} {
		numbered(t, want, id, 0, count, 0)
	}
	if n := stat.Fade(s); n != 6 {
		t.Error("Fade:", n)
	}
	isSame(t, "Fade", s, want)
	if n := stat.Fade(s); n != 0 {
		t.Error("Fade again:", n)
	}
	isSame(t, "Fade again", s, want)
}

// Hurts go with the boosts that kept a creature alive; counters stay.
func TestFadeOfOne(t *testing.T) {
	for _, c := range []struct {
		hurt, count, boost, n int
		dead                  bool
	}{
		{0, 0, 0, 0, false}, {1, 0, 0, 1, false}, {9, 0, 0, 1, false}, {3, 0, 3, 1, false}, {0, 0, 3, 1, false},
		{0, 0, -9, 1, false}, {0, -2, 0, 0, true}, {0, -2, 5, 1, true}, {1, 1, 1, 1, false},
	} {
		s := onField(t, bear)
		numbered(t, s, 1, c.hurt, c.count, c.boost)
		if n := stat.Fade(s); n != c.n {
			t.Errorf("%v: Fade = %d", c, n)
		}
		if dead := stat.Dead(s, 1); dead != c.dead {
			t.Errorf("%v: Dead = %t", c, dead)
		}
		strong(t, s, 1, 2+c.count, 2+c.count)
	}
}
