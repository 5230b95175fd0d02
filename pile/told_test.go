package pile_test

import (
	"iter"
	"slices"
	"testing"

	"hydra/pile"
)

// things is what All tells, called now, without the places.
func things[T comparable](p *pile.Pile[T]) iter.Seq[T] {
	all := p.All()
	return func(yield func(T) bool) {
		for _, x := range all {
			if !yield(x) {
				return
			}
		}
	}
}

func all(int) bool { return true }

// ways is all that tells things one by one.
func ways(p *pile.Pile[int]) map[string]iter.Seq[int] {
	return map[string]iter.Seq[int]{"All": things(p), "Back": p.Back(), "Where": pile.Where(p, all)}
}

// turned is a list as it is told by one of the ways.
func turned(way string, l ...int) []int {
	if way == "Back" {
		slices.Reverse(l)
	}
	return l
}

func TestAllTellsPlaces(t *testing.T) {
	places := ""
	for i, x := range pile.New("c", "a", "b").All() {
		places += x + string(rune('0'+i))
	}
	if places != "c0a1b2" {
		t.Error(places)
	}
}

func TestBack(t *testing.T) {
	if l := slices.Collect(pile.New(1, 2, 3, 4).Back()); !slices.Equal(l, []int{4, 3, 2, 1}) {
		t.Error(l)
	}
	if l := slices.Collect(pile.New(7).Back()); !slices.Equal(l, []int{7}) {
		t.Error(l)
	}
	for range pile.New[int]().Back() {
		t.Error("an empty pile tells something")
	}
}

func TestWhere(t *testing.T) {
	p := pile.New(5, 2, 8, 1, 4, 0)
	for _, v := range []struct {
		name string
		is   func(int) bool
		want []int
	}{
		{"even", func(x int) bool { return x%2 == 0 }, []int{2, 8, 4, 0}},
		{"odd", func(x int) bool { return x%2 == 1 }, []int{5, 1}},
		{"all", all, []int{5, 2, 8, 1, 4, 0}},
		{"none", func(int) bool { return false }, nil},
		{"the first one", func(x int) bool { return x == 5 }, []int{5}},
		{"the last one", func(x int) bool { return x == 0 }, []int{0}},
		{"nil", nil, nil},
	} {
		if l := slices.Collect(pile.Where(p, v.is)); !slices.Equal(l, v.want) {
			t.Errorf("%s: %v; want %v", v.name, l, v.want)
		}
		if l := slices.Collect(pile.Where(pile.New[int](), v.is)); len(l) != 0 {
			t.Errorf("%s of none: %v", v.name, l)
		}
		if l := slices.Collect(pile.Where(nil, v.is)); len(l) != 0 {
			t.Errorf("%s of nil: %v", v.name, l)
		}
	}
	stands(t, p, 5, 2, 8, 1, 4, 0)
}

// No more is asked of the function than of the pile.
func TestWhereAsksAsFarAsAsked(t *testing.T) {
	var asked []int
	seq := pile.Where(pile.New(1, 2, 3, 4, 5), func(x int) bool {
		asked = append(asked, x)
		return x%2 == 0
	})
	if len(asked) != 0 {
		t.Error("asked ahead of time:", asked)
	}
	for x := range seq {
		if x != 2 {
			t.Error(x)
		}
		break
	}
	if !slices.Equal(asked, []int{1, 2}) {
		t.Error(asked)
	}
}

// A function that panics tells that it isn't so; the panic doesn't get out.
func TestWhereOfFunctionThatPanics(t *testing.T) {
	l := slices.Collect(pile.Where(pile.New(1, 2, 3), func(x int) bool {
		if x == 2 {
			panic("is")
		}
		return true
	}))
	if !slices.Equal(l, []int{1, 3}) {
		t.Error(l)
	}
}

// The panic of the loop is the loop's own.
func TestPanicOfLoopGetsOut(t *testing.T) {
	for way, seq := range ways(pile.New(1, 2, 3)) {
		func() {
			defer func() {
				if recover() != "mine" {
					t.Error(way, "keeps the loop's panic")
				}
			}()
			for range seq {
				panic("mine")
			}
		}()
	}
}

func TestToldAsFarAsAsked(t *testing.T) {
	for way, seq := range ways(pile.New(1, 2, 3, 4)) {
		for stop := 1; stop <= 4; stop++ {
			calls := 0
			seq(func(int) bool {
				calls++
				return calls < stop
			})
			if calls != stop {
				t.Errorf("%s: told %d; asked for %d", way, calls, stop)
			}
		}
	}
	calls := 0
	pile.New(1, 2).All()(func(int, int) bool { calls++; return false })
	if calls != 1 {
		t.Error("All tells on to one that asks for no more:", calls)
	}
}

// changes is what may come of a pile of 1, 2, 3 while it is told, and what it is then.
func changes() []struct {
	name string
	do   func(*pile.Pile[int])
	want []int
} {
	return []struct {
		name string
		do   func(*pile.Pile[int])
		want []int
	}{
		{"all popped", func(p *pile.Pile[int]) { p.Pop(); p.Pop(); p.Pop() }, nil},
		{"one dropped", func(p *pile.Pile[int]) { p.Drop(2) }, []int{1, 3}},
		{"the last one dropped", func(p *pile.Pile[int]) { p.Drop(3) }, []int{1, 2}},
		{"one on top", func(p *pile.Pile[int]) { p.Push(4) }, []int{4, 1, 2, 3}},
		{"one under", func(p *pile.Pile[int]) { p.Under(4) }, []int{1, 2, 3, 4}},
		{"turned round", func(p *pile.Pile[int]) { p.Drop(1); p.Under(1); p.Drop(2); p.Under(2) }, []int{3, 1, 2}},
		{"others instead", func(p *pile.Pile[int]) {
			p.Pop()
			p.Pop()
			p.Pop()
			p.Under(7)
			p.Under(8)
			p.Under(9)
		}, []int{7, 8, 9}},
		{"one turned off", func(p *pile.Pile[int]) { pile.Turn(p, pile.New[int](), 3, false) }, []int{1, 2}},
		{"one turned on", func(p *pile.Pile[int]) { pile.Turn(pile.New(5), p, 5, false) }, []int{5, 1, 2, 3}},
	}
}

// Each is told as it was when it began, whatever comes of the pile meanwhile; a new beginning tells what is there then.
func TestToldAsItWas(t *testing.T) {
	for _, v := range changes() {
		for _, way := range []string{"All", "Back", "Where"} {
			for at := range 3 {
				p := pile.New(1, 2, 3, 0)
				p.Drop(0)
				seq := ways(p)[way]
				var l []int
				for x := range seq {
					if len(l) == at {
						v.do(p)
					}
					l = append(l, x)
				}
				if !slices.Equal(l, turned(way, 1, 2, 3)) {
					t.Errorf("%s, %s at %d: %v", way, v.name, at, l)
				}
				if l := slices.Collect(seq); !slices.Equal(l, turned(way, slices.Clone(v.want)...)) {
					t.Errorf("%s, %s at %d, then: %v; want %v", way, v.name, at, l, v.want)
				}
				stands(t, p, v.want...)
			}
		}
	}
}

// Where's function may change the pile, too.
func TestWhereAsItWas(t *testing.T) {
	for _, v := range changes() {
		p := pile.New(1, 2, 3)
		first := true
		l := slices.Collect(pile.Where(p, func(int) bool {
			if first {
				v.do(p)
			}
			first = false
			return true
		}))
		if !slices.Equal(l, []int{1, 2, 3}) {
			t.Errorf("%s: %v", v.name, l)
		}
		stands(t, p, v.want...)
	}
}

// It begins when it is gone over, not when All, Back or Where is called.
func TestToldFromItsBeginning(t *testing.T) {
	p := pile.New(1, 2)
	all := ways(p)
	p.Push(3)
	p.Drop(2)
	for way, seq := range all {
		if l := slices.Collect(seq); !slices.Equal(l, turned(way, 3, 1)) {
			t.Error(way, l)
		}
	}
	p.Pop()
	for way, seq := range all {
		if l := slices.Collect(seq); !slices.Equal(l, []int{1}) {
			t.Error(way, "again", l)
		}
	}
}

// One may be gone over within another, and more than once.
func TestToldWithinAnother(t *testing.T) {
	for way, seq := range ways(pile.New(1, 2, 3)) {
		n := 0
		for range seq {
			if l := slices.Collect(seq); !slices.Equal(l, turned(way, 1, 2, 3)) {
				t.Error(way, l)
			}
			n++
		}
		if n != 3 {
			t.Error(way, n)
		}
	}
}
