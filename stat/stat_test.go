package stat_test

import (
	"math"
	"testing"

	"hydra/api"
	"hydra/object"
	"hydra/stat"
)

// The cards of table, by their places.
const (
	land = iota
	bear
	wall
	giant
	spell
	scheme
)

const allKeys = api.Haste | api.Flying | api.Vigil | api.Link | api.Toxic

func table() []api.Card {
	return []api.Card{
		land:   {Kind: api.Land},
		bear:   {Kind: api.Creature, Cost: 2, Power: 2, Tough: 2},
		wall:   {Kind: api.Creature, Power: 0, Tough: 5, Keys: api.Flying | api.Toxic},
		giant:  {Kind: api.Creature, Cost: 9, Power: 20, Tough: 1, Keys: allKeys, When: api.Dies, Terms: []api.Term{{Op: api.Draw, N: 1}}},
		spell:  {Kind: api.Spell, Cost: 1, Terms: []api.Term{{Op: api.Hurt, N: 2, On: api.Any}}},
		scheme: {Kind: api.Scheme, Terms: []api.Term{{Op: api.Draw, N: 1}}},
	}
}

var (
	zones    = []int{api.Library, api.InHand, api.Field, api.Stack, api.Grave, api.Exile, api.Command}
	wrongIds = []int{0, -1, 100, math.MaxInt, math.MinInt}
	// The numbers at which something is held, those beside them, and the ends of what numbers there are.
	numbers = []int{math.MinInt, math.MinInt + 1, -5000, -1999, -1998, -1000, -999, -998, -21, -20, -19, -5, -2, -1,
		0, 1, 2, 3, 19, 978, 979, 980, 997, 998, 999, 1000, 1998, 1999, 5000, math.MaxInt - 1, math.MaxInt}
)

// onField is a store of two seats with a card of the table on the Field: object 1, of seat 1.
func onField(t *testing.T, n int) *object.Store { return inZone(t, n, api.Field) }

func inZone(t *testing.T, n, zone int) *object.Store {
	t.Helper()
	s, e := object.New(table(), 2)
	if e != api.OK {
		t.Fatal("New:", e)
	}
	add(t, s, n, 1, zone)
	return s
}

func add(t *testing.T, s *object.Store, n, owner, zone int) {
	t.Helper()
	if id, e := s.Add(n, owner, zone); id != s.Len() || e != api.OK {
		t.Fatalf("Add(%d, %d, %d) = %d, %d", n, owner, zone, id, e)
	}
}

// with lets an object be so, past what this layer would do.
func with(t *testing.T, s *object.Store, id int, so func(o *api.Obj)) {
	t.Helper()
	o, e := s.Get(id)
	if e != api.OK {
		t.Fatalf("Get(%d): %d", id, e)
	}
	so(&o)
	if e := s.Set(o); e != api.OK {
		t.Fatalf("Set(%v): %d", o, e)
	}
}

// numbered is an object with these hurts, counters and boosts.
func numbered(t *testing.T, s *object.Store, id, hurt, count, boost int) {
	t.Helper()
	with(t, s, id, func(o *api.Obj) { o.Hurt, o.Count, o.Boost = hurt, count, boost })
}

// marked is all else that an object may have.
func marked(t *testing.T, s *object.Store, id int) {
	t.Helper()
	with(t, s, id, func(o *api.Obj) { o.Tapped, o.Sick, o.Attacks, o.Block = true, true, true, 7 })
}

// tells asks whether a call told what it should.
func tells(t *testing.T, call string, got, want api.Errno) {
	t.Helper()
	if got != want {
		t.Errorf("%s = %d; want %d", call, got, want)
	}
}

// isSame asks whether a store is what it should be.
func isSame(t *testing.T, call string, s, want *object.Store) {
	t.Helper()
	if s.Same(want) {
		return
	}
	t.Errorf("%s: not as it should be:", call)
	for o := range s.All() {
		x, _ := want.Get(o.Id)
		t.Errorf("%v; want %v", o, x)
	}
}

// strong asks what a creature's power and toughness are, and whether it is one.
func strong(t *testing.T, s *object.Store, id, power, tough int) {
	t.Helper()
	if p, n := stat.Power(s, id), stat.Tough(s, id); p != power || n != tough {
		t.Errorf("object %d is %d, %d; want %d, %d", id, p, n, power, tough)
	}
	if !stat.Live(s, id) {
		t.Errorf("Live(%d) is false", id)
	}
}

// isNone asks whether something is told to be no creature on the Field, whatever is asked.
func isNone(t *testing.T, s *object.Store, id int) {
	t.Helper()
	if stat.Power(s, id) != 0 || stat.Tough(s, id) != 0 || stat.Keys(s, id) != 0 || stat.Live(s, id) || stat.Dead(s, id) {
		t.Errorf("object %d: %d, %d, keys %d, live %t, dead %t; want nothing", id,
			stat.Power(s, id), stat.Tough(s, id), stat.Keys(s, id), stat.Live(s, id), stat.Dead(s, id))
	}
}

// A change is one of the three functions by which a creature changes.
type change struct {
	name string
	do   func(s *object.Store, id, n int) api.Errno
	of   func(o *api.Obj) *int
	min  int
}

func changes() []change {
	return []change{
		{"Hurt", stat.Hurt, func(o *api.Obj) *int { return &o.Hurt }, 0},
		{"Count", stat.Count, func(o *api.Obj) *int { return &o.Count }, -999},
		{"Boost", stat.Boost, func(o *api.Obj) *int { return &o.Boost }, -999},
	}
}

// sum is two numbers' sum, held: by floats, which don't wrap round.
func sum(a, b int, low float64) int {
	return int(min(max(float64(a)+float64(b), low), 999))
}

// heldSum is what Add is to be: each is held first, and then their sum.
func heldSum(a, b int) int { return sum(sum(a, 0, -999), sum(b, 0, -999), -999) }

// The chapter's example.
func TestCounterAndBoost(t *testing.T) {
	s := onField(t, bear)
	strong(t, s, 1, 2, 2)
	tells(t, "Count", stat.Count(s, 1, 1), api.OK)
	strong(t, s, 1, 3, 3)
	tells(t, "Boost", stat.Boost(s, 1, 2), api.OK)
	strong(t, s, 1, 5, 5)
}

func TestWhatCardsSay(t *testing.T) {
	for n, c := range table() {
		s := onField(t, n)
		was := s.Copy()
		if c.Kind != api.Creature {
			isNone(t, s, 1)
			continue
		}
		strong(t, s, 1, c.Power, c.Tough)
		if k := stat.Keys(s, 1); k != c.Keys {
			t.Errorf("Keys of card %d = %d; want %d", n, k, c.Keys)
		}
		if stat.Dead(s, 1) {
			t.Errorf("card %d is dead", n)
		}
		isSame(t, "asking", s, was)
	}
}

// Counters first, held within 0 to 999, then boosts: another order would answer otherwise.
func TestLayers(t *testing.T) {
	for _, c := range []struct{ count, boost, power, tough int }{
		{0, 0, 0, 5}, {1, 0, 1, 6}, {0, 1, 1, 6}, {3, 4, 7, 12},
		{-1, 0, 0, 4}, {-1, 1, 1, 5}, {-4, 0, 0, 1}, {-5, 0, 0, 0}, {-6, 0, 0, 0},
		{-6, 2, 2, 2}, {-999, 2, 2, 2}, {2, -6, 0, 1}, {2, -999, 0, 0}, {-999, 999, 999, 999},
		{994, 0, 994, 999}, {995, 0, 995, 999}, {999, -1, 998, 998}, {999, 999, 999, 999}, {999, -999, 0, 0},
		{math.MaxInt, -1, 998, 998}, {math.MinInt, 1, 1, 1}, {1, math.MaxInt, 999, 999}, {1, math.MinInt, 0, 0},
		{math.MaxInt, math.MaxInt, 999, 999}, {math.MinInt, math.MinInt, 0, 0}, {math.MaxInt, math.MinInt, 0, 0},
	} {
		s := onField(t, wall) // 0, 5
		numbered(t, s, 1, 0, c.count, c.boost)
		strong(t, s, 1, c.power, c.tough)
		if k := stat.Keys(s, 1); k != api.Flying|api.Toxic {
			t.Error("Keys:", k)
		}
	}
}

func TestLayersOfAllNumbers(t *testing.T) {
	for _, n := range []int{bear, wall, giant} {
		c := table()[n]
		s := onField(t, n)
		for _, count := range numbers {
			for _, boost := range numbers {
				numbered(t, s, 1, 0, count, boost)
				strong(t, s, 1, sum(sum(c.Power, count, 0), boost, 0), sum(sum(c.Tough, count, 0), boost, 0))
			}
		}
		if t.Failed() {
			t.Fatalf("card %d", n)
		}
	}
}

// Hurts, and all else that an object may have, are nothing to power, toughness and keys.
func TestHurtIsNoWeakness(t *testing.T) {
	s := onField(t, giant)
	numbered(t, s, 1, 500, 3, -2)
	marked(t, s, 1)
	strong(t, s, 1, 21, 2)
	if k := stat.Keys(s, 1); k != allKeys {
		t.Error("Keys:", k)
	}
}

// Just Creatures that are on the Field count, whatever else they have.
func TestZonesAndKinds(t *testing.T) {
	for _, zone := range zones {
		for n, c := range table() {
			s := inZone(t, n, zone)
			numbered(t, s, 1, 9, 4, 3)
			marked(t, s, 1)
			if zone != api.Field || c.Kind != api.Creature {
				isNone(t, s, 1)
				refused(t, s, 1, api.ErrZone)
				continue
			}
			strong(t, s, 1, c.Power+7, c.Tough+7)
		}
	}
}

// refused asks whether a creature can't be changed, by whichever number, and whether nothing is.
func refused(t *testing.T, s *object.Store, id int, want api.Errno) {
	t.Helper()
	was := s.Copy()
	for _, c := range changes() {
		for _, n := range []int{0, 1, -1, math.MaxInt, math.MinInt} {
			tells(t, c.name, c.do(s, id, n), want)
		}
	}
	isSame(t, "what was refused", s, was)
}

// What leaves the Field is none any more; when it comes again, it is as new.
func TestMoved(t *testing.T) {
	for _, zone := range zones {
		if zone == api.Field {
			continue
		}
		s := onField(t, bear)
		numbered(t, s, 1, 1, 4, 3)
		strong(t, s, 1, 9, 9)
		tells(t, "Move", s.Move(1, zone, false), api.OK)
		isNone(t, s, 1)
		refused(t, s, 1, api.ErrZone)
		tells(t, "Move", s.Move(1, api.Field, true), api.OK)
		strong(t, s, 1, 2, 2)
	}
}

func TestNoObject(t *testing.T) {
	s := onField(t, bear)
	for _, id := range append(wrongIds, 2) {
		isNone(t, s, id)
		refused(t, s, id, api.ErrNone)
	}
	strong(t, s, 1, 2, 2)
}

func TestNoStore(t *testing.T) {
	for _, id := range append(wrongIds, 1) {
		isNone(t, nil, id)
		refused(t, nil, id, api.ErrArg)
		isNone(t, new(object.Store), id)
		refused(t, new(object.Store), id, api.ErrNone)
	}
	for _, s := range []*object.Store{nil, new(object.Store)} {
		if n := stat.Fade(s); n != 0 {
			t.Error("Fade:", n)
		}
		told(t, s, nil)
		told(t, s, []int{0, 1})
	}
}

func TestDead(t *testing.T) {
	for _, c := range []struct {
		hurt, count, boost int
		want               bool
	}{
		{0, 0, 0, false}, {4, 0, 0, false}, {5, 0, 0, true}, {6, 0, 0, true}, {999, 0, 0, true},
		{5, 1, 0, false}, {6, 1, 0, true}, {5, 0, 1, false}, {6, 0, 1, true}, {4, -1, 0, true}, {4, 0, -1, true},
		{0, -4, 0, false}, {0, -5, 0, true}, {0, 0, -5, true}, {0, -999, 1, false}, {1, -999, 1, true},
		{998, 999, 0, false}, {999, 999, 999, true},
		{-1, 0, 0, false}, {-1, -5, 0, true}, {math.MinInt, -5, 0, true}, {math.MinInt, 0, 0, false},
		{math.MaxInt, math.MaxInt, math.MaxInt, true}, {998, math.MaxInt, math.MaxInt, false},
	} {
		s := onField(t, wall) // 0, 5
		numbered(t, s, 1, c.hurt, c.count, c.boost)
		was := s.Copy()
		if dead := stat.Dead(s, 1); dead != c.want {
			t.Errorf("%v: Dead = %t", c, dead)
		}
		// It is there till it is taken off.
		if !stat.Live(s, 1) {
			t.Errorf("%v: Live is false", c)
		}
		isSame(t, "Dead", s, was)
	}
}

func TestAdd(t *testing.T) {
	for _, c := range []struct{ a, b, want int }{
		{0, 0, 0}, {2, 3, 5}, {2, -3, -1}, {-2, -3, -5}, {998, 1, 999}, {999, 1, 999}, {-998, -1, -999}, {-999, -1, -999},
		{900, 900, 999}, {-900, -900, -999}, {999, -999, 0}, {5000, -1, 998}, {-5000, 1, -998}, {5000, -5000, 0},
		{1000, -1000, 0}, {1000, -1, 998}, {-1, 1000, 998}, {1, -1000, -998}, {5000, -4000, 0},
		{math.MaxInt, math.MaxInt, 999}, {math.MinInt, math.MinInt, -999}, {math.MaxInt, math.MinInt, 0},
		{math.MaxInt, -1, 998}, {1, math.MinInt, -998},
	} {
		if n := stat.Add(c.a, c.b); n != c.want {
			t.Errorf("Add(%d, %d) = %d; want %d", c.a, c.b, n, c.want)
		}
	}
	for _, a := range numbers {
		for _, b := range numbers {
			if n, want := stat.Add(a, b), heldSum(a, b); n != want {
				t.Errorf("Add(%d, %d) = %d; want %d", a, b, n, want)
			}
		}
	}
}

// Each changes just one number of one creature; by Add, and hurts are held at 0.
func TestChanges(t *testing.T) {
	for _, c := range changes() {
		s := onField(t, bear)
		add(t, s, bear, 1, api.Field)
		numbered(t, s, 1, 3, 2, 1)
		marked(t, s, 1)
		with(t, s, 1, func(o *api.Obj) { *c.of(o) = 0 })
		for _, step := range []struct{ n, hurt, other int }{
			{4, 4, 4}, {0, 4, 4}, {-3, 1, 1}, {-2, 0, -1}, {998, 998, 997}, {1, 999, 998}, {5000, 999, 999},
			{1, 999, 999}, {-5000, 0, 0}, {math.MinInt, 0, -999}, {-1, 0, -999}, {math.MaxInt, 999, 0},
		} {
			now := step.other
			if c.name == "Hurt" {
				now = step.hurt
			}
			want := s.Copy()
			with(t, want, 1, func(o *api.Obj) { *c.of(o) = now })
			tells(t, c.name, c.do(s, 1, step.n), api.OK)
			isSame(t, c.name, s, want)
		}
	}
}

func TestChangesByAllNumbers(t *testing.T) {
	for _, c := range changes() {
		s := onField(t, wall)
		for _, a := range numbers {
			for _, b := range numbers {
				numbered(t, s, 1, 1, 2, 3)
				with(t, s, 1, func(o *api.Obj) { *c.of(o) = a })
				want := s.Copy()
				with(t, want, 1, func(o *api.Obj) { *c.of(o) = max(heldSum(a, b), c.min) })
				tells(t, c.name, c.do(s, 1, b), api.OK)
				isSame(t, c.name, s, want)
			}
		}
	}
}

// A creature may be hurt beyond its death, and be healed again.
func TestHurtAndHealed(t *testing.T) {
	s := onField(t, bear)
	for _, step := range []struct {
		n    int
		dead bool
	}{{1, false}, {1, true}, {5, true}, {-5, true}, {-1, false}, {-9, false}, {1, false}, {1, true}} {
		tells(t, "Hurt", stat.Hurt(s, 1, step.n), api.OK)
		if dead := stat.Dead(s, 1); dead != step.dead {
			t.Errorf("hurt by %d: Dead = %t", step.n, dead)
		}
	}
}
