package card_test

import (
	"math"
	"slices"
	"strings"
	"testing"

	"hydra/api"
	"hydra/card"
)

// far is numbers that no field may be.
func far() []int { return []int{-1, 21, 32, 255, 256, math.MaxInt, math.MinInt} }

// hits is a term that is aimed at any Creature; heals one that is aimed at Self.
var (
	hits  = api.Term{Op: api.Hurt, N: 3, On: api.Any}
	heals = api.Term{Op: api.Heal, N: 1, On: api.Self}
)

// good is cards that may be, by name.
func good() map[string]api.Card {
	return map[string]api.Card{
		"land":              {Kind: api.Land},
		"land, empty list":  {Kind: api.Land, Terms: []api.Term{}},
		"bear":              {Kind: api.Creature, Cost: 2, Power: 2, Tough: 2},
		"least creature":    {Kind: api.Creature, Tough: 1},
		"most creature":     {Kind: api.Creature, Cost: 9, Power: 20, Tough: 20, Keys: 31, When: api.Attacks, Terms: []api.Term{heals, heals, heals, heals}},
		"enters, aimed":     {Kind: api.Creature, Tough: 1, When: api.Enters, Terms: []api.Term{hits}},
		"enters, at itself": {Kind: api.Creature, Tough: 1, When: api.Enters, Terms: []api.Term{heals}},
		"dies":              {Kind: api.Creature, Tough: 1, When: api.Dies, Terms: []api.Term{{Op: api.Drain, N: 1}}},
		"attacks":           {Kind: api.Creature, Tough: 1, When: api.Attacks, Terms: []api.Term{{Op: api.Draw, N: 20}}},
		"bolt":              {Kind: api.Spell, Cost: 1, Terms: []api.Term{hits, heals}},
		"free spell":        {Kind: api.Spell, Terms: []api.Term{heals}},
		"aimed last":        {Kind: api.Spell, Cost: 9, Terms: []api.Term{heals, heals, heals, {Op: api.Kill, On: api.Foe}}},
		"scheme":            {Kind: api.Scheme, Terms: []api.Term{{Op: api.Draw, N: 2}}},
		"long scheme":       {Kind: api.Scheme, Terms: []api.Term{heals, heals, heals, {Op: api.Drain}}},
	}
}

// bad is cards that may not be, by name: each is wrong in one thing.
func bad() map[string]api.Card {
	five := []api.Term{heals, heals, heals, heals, heals}
	two := []api.Term{hits, heals, {Op: api.Kill, On: api.Foe}}
	wrong := []api.Term{{Op: api.Heal, N: 21}}
	return map[string]api.Card{
		"no kind":                 {},
		"kind above":              {Kind: 5},
		"kind above, as a spell":  {Kind: 5, Terms: []api.Term{heals}},
		"land with cost":          {Kind: api.Land, Cost: 1},
		"land with power":         {Kind: api.Land, Power: 1},
		"land with toughness":     {Kind: api.Land, Tough: 1},
		"land with keys":          {Kind: api.Land, Keys: 1},
		"land with when":          {Kind: api.Land, When: api.Enters},
		"land with a term":        {Kind: api.Land, Terms: []api.Term{heals}},
		"land with when and term": {Kind: api.Land, When: api.Enters, Terms: []api.Term{heals}},
		"creature of toughness 0": {Kind: api.Creature, Power: 1},
		"never, with a term":      {Kind: api.Creature, Tough: 1, Terms: []api.Term{heals}},
		"enters, no term":         {Kind: api.Creature, Tough: 1, When: api.Enters},
		"dies, no term":           {Kind: api.Creature, Tough: 1, When: api.Dies},
		"attacks, empty list":     {Kind: api.Creature, Tough: 1, When: api.Attacks, Terms: []api.Term{}},
		"dies, aimed":             {Kind: api.Creature, Tough: 1, When: api.Dies, Terms: []api.Term{heals, hits}},
		"attacks, aimed":          {Kind: api.Creature, Tough: 1, When: api.Attacks, Terms: []api.Term{hits}},
		"when above":              {Kind: api.Creature, Tough: 1, When: 4, Terms: []api.Term{heals}},
		"creature of five terms":  {Kind: api.Creature, Tough: 1, When: api.Enters, Terms: five},
		"creature aimed twice":    {Kind: api.Creature, Tough: 1, When: api.Enters, Terms: two},
		"creature of wrong term":  {Kind: api.Creature, Tough: 1, When: api.Enters, Terms: wrong},
		"spell without term":      {Kind: api.Spell, Cost: 1},
		"spell with power":        {Kind: api.Spell, Power: 1, Terms: []api.Term{heals}},
		"spell with toughness":    {Kind: api.Spell, Tough: 1, Terms: []api.Term{heals}},
		"spell with keys":         {Kind: api.Spell, Keys: 1, Terms: []api.Term{heals}},
		"spell with when":         {Kind: api.Spell, When: api.Enters, Terms: []api.Term{heals}},
		"spell of five terms":     {Kind: api.Spell, Terms: five},
		"spell aimed twice":       {Kind: api.Spell, Terms: two},
		"spell of wrong term":     {Kind: api.Spell, Terms: wrong},
		"spell, last term wrong":  {Kind: api.Spell, Terms: []api.Term{heals, heals, heals, {}}},
		"scheme without term":     {Kind: api.Scheme},
		"scheme with cost":        {Kind: api.Scheme, Cost: 1, Terms: []api.Term{heals}},
		"scheme with power":       {Kind: api.Scheme, Power: 1, Terms: []api.Term{heals}},
		"scheme with toughness":   {Kind: api.Scheme, Tough: 1, Terms: []api.Term{heals}},
		"scheme with keys":        {Kind: api.Scheme, Keys: 1, Terms: []api.Term{heals}},
		"scheme with when":        {Kind: api.Scheme, When: api.Dies, Terms: []api.Term{heals}},
		"scheme, aimed":           {Kind: api.Scheme, Terms: []api.Term{heals, hits}},
		"scheme of five terms":    {Kind: api.Scheme, Terms: five},
		"scheme of wrong term":    {Kind: api.Scheme, Terms: wrong},
	}
}

// changed is all cards that come of one by another number in one of its own six.
func changed(c api.Card, n int) []api.Card {
	l := []api.Card{c, c, c, c, c, c}
	l[0].Kind, l[1].Cost, l[2].Power = n, n, n
	l[3].Tough, l[4].Keys, l[5].When = n, n, n
	return l
}

func TestCheckTerm(t *testing.T) {
	aims := map[int][]int{
		api.Hurt: {api.Any, api.Foe, api.Side},
		api.Heal: {api.Self}, api.Draw: {api.Self}, api.Drain: {api.Self},
		api.Swell: {api.Any, api.Own}, api.Grow: {api.Any, api.Own},
		api.Kill: {api.Any, api.Foe}, api.Back: {api.Any, api.Foe}, api.Bind: {api.Any, api.Foe},
	}
	numberless := []int{api.Kill, api.Back, api.Bind}
	for op := -2; op <= 12; op++ {
		for n := -2; n <= 23; n++ {
			for on := -2; on <= 6; on++ {
				want := api.ErrCard
				if slices.Contains(aims[op], on) && (n == 0 || n > 0 && n <= 20 && !slices.Contains(numberless, op)) {
					want = api.OK
				}
				x := api.Term{Op: op, N: n, On: on}
				if e := card.CheckTerm(x); e != want {
					t.Errorf("CheckTerm(%v) = %d; want %d", x, e, want)
				}
			}
		}
	}
	for _, n := range far() {
		for _, x := range []api.Term{{Op: n, N: 1, On: api.Any}, {Op: n}, {Op: api.Heal, N: n}, {Op: api.Heal, On: n}, {Op: api.Kill, N: n, On: api.Any}} {
			if e := card.CheckTerm(x); e != api.ErrCard {
				t.Errorf("CheckTerm(%v) = %d", x, e)
			}
		}
	}
}

func TestCheck(t *testing.T) {
	for name, c := range good() {
		if e := card.Check(c); e != api.OK {
			t.Errorf("%s: %d", name, e)
		}
		for _, n := range far() {
			for i, x := range changed(c, n) {
				// 21 is a number of keys that may be.
				if i == 4 && n == 21 {
					continue
				}
				if e := card.Check(x); e != api.ErrCard {
					t.Errorf("%s with %d at %d: %d", name, n, i, e)
				}
			}
		}
	}
	for name, c := range bad() {
		if e := card.Check(c); e != api.ErrCard {
			t.Errorf("%s: %d", name, e)
		}
	}
}

func TestCheckOfEachNumber(t *testing.T) {
	lords := api.Card{Kind: api.Creature, Tough: 5, When: api.Enters, Terms: []api.Term{heals}}
	least := [6]int{2, 0, 0, 1, 0, 1}
	most := [6]int{2, 9, 20, 20, 31, 3}
	for n := -3; n <= 40; n++ {
		for i, x := range changed(lords, n) {
			want := api.ErrCard
			if n >= least[i] && n <= most[i] {
				want = api.OK
			}
			if e := card.Check(x); e != want {
				t.Errorf("%d at %d: %d; want %d", n, i, e, want)
			}
		}
	}
}

// Whatever is in a term, a card with it may be only if it may; and one aimed term is the most.
func TestCheckOfTerms(t *testing.T) {
	for op := range 11 {
		for on := range 6 {
			x := api.Term{Op: op, On: on}
			spell := api.Card{Kind: api.Spell, Terms: []api.Term{heals, x}}
			if card.Check(spell) != card.CheckTerm(x) {
				t.Error("spell", x)
			}
			want := card.CheckTerm(x)
			if on != api.Self {
				want = api.ErrCard
			}
			for name, c := range map[string]api.Card{
				"hits too": {Kind: api.Spell, Terms: []api.Term{x, hits}},
				"dies":     {Kind: api.Creature, Tough: 1, When: api.Dies, Terms: []api.Term{x}},
				"attacks":  {Kind: api.Creature, Tough: 1, When: api.Attacks, Terms: []api.Term{x}},
				"scheme":   {Kind: api.Scheme, Terms: []api.Term{x}},
			} {
				if e := card.Check(c); e != want {
					t.Errorf("%s, %v: %d; want %d", name, x, e, want)
				}
			}
		}
	}
}

func TestAimed(t *testing.T) {
	at := func(l ...int) api.Card {
		var c api.Card
		for _, on := range l {
			c.Terms = append(c.Terms, api.Term{On: on})
		}
		return c
	}
	for _, v := range []struct {
		c    api.Card
		want int
	}{
		{at(), api.Self}, {at(api.Self, api.Self), api.Self},
		{at(api.Any), api.Any}, {at(api.Foe), api.Foe}, {at(api.Own), api.Own}, {at(api.Side), api.Side},
		{at(api.Self, api.Side), api.Side}, {at(api.Foe, api.Self), api.Foe},
		{at(api.Self, api.Foe, api.Any), api.Foe}, {at(api.Any, api.Foe), api.Any},
		{at(api.Self, api.Self, api.Self, api.Self, api.Own), api.Own},
		{at(api.Self, -7, api.Any), -7},
	} {
		if on := card.Aimed(v.c); on != v.want {
			t.Errorf("Aimed(%v) = %d; want %d", v.c, on, v.want)
		}
	}
}

func TestIs(t *testing.T) {
	for kind := 1; kind <= 4; kind++ {
		c := api.Card{Kind: kind}
		for other := -1; other <= 5; other++ {
			if card.Is(c, other) != (kind == other) {
				t.Error(kind, other)
			}
		}
		if card.Is(c) || card.Is(c, nil...) || card.Is(c, 0, 5, -kind) {
			t.Error(kind, "is of kinds that it isn't")
		}
		if !card.Is(c, 1, 2, 3, 4) || !card.Is(c, 4, 3, 2, 1) || !card.Is(c, kind, kind) {
			t.Error(kind, "isn't of its own kind")
		}
	}
}

func TestHas(t *testing.T) {
	for keys := range 32 {
		for key := -2; key <= 40; key++ {
			want := key > 0
			for _, bit := range []int{api.Haste, api.Flying, api.Vigil, api.Link, api.Toxic, 32} {
				if key&bit != 0 && keys&bit == 0 {
					want = false
				}
			}
			if card.Has(api.Card{Keys: keys}, key) != want {
				t.Error(keys, key)
			}
		}
	}
	for _, key := range []int{0, -1, math.MinInt} {
		if card.Has(api.Card{Keys: -1}, key) {
			t.Error(key)
		}
	}
}

func TestSame(t *testing.T) {
	all := good()
	for a, x := range all {
		for b, y := range all {
			lands := strings.HasPrefix(a, "land") && strings.HasPrefix(b, "land")
			if card.Same(x, y) != (a == b || lands) {
				t.Error(a, b)
			}
		}
		for _, y := range changed(x, 77) {
			if card.Same(x, y) || card.Same(y, x) {
				t.Error(a, y)
			}
		}
	}
	with := func(l ...api.Term) api.Card { return api.Card{Kind: api.Spell, Terms: l} }
	if !card.Same(with(hits, heals), with(hits, heals)) || !card.Same(with(), api.Card{Kind: api.Spell, Terms: []api.Term{}}) {
		t.Error("two that are one aren't the same")
	}
	for _, x := range []api.Card{
		with(), with(hits), with(heals, hits), with(hits, heals, heals),
		with(hits, api.Term{Op: 9, N: 1}), with(hits, api.Term{Op: api.Heal, N: 2}), with(hits, api.Term{Op: api.Heal, N: 1, On: 1}),
	} {
		if card.Same(with(hits, heals), x) || card.Same(x, with(hits, heals)) {
			t.Error(x)
		}
	}
}

func TestCopy(t *testing.T) {
	cards := good()
	for name, c := range bad() {
		cards[name] = c
	}
	for name, c := range cards {
		if x := card.Copy(c); !card.Same(x, c) {
			t.Error(name, x)
		}
	}
	roomy := make([]api.Term, 1, 4)
	roomy[0] = hits
	c := api.Card{Kind: api.Spell, Terms: roomy}
	x := card.Copy(c)
	x.Terms[0].N = 9
	_ = append(x.Terms, heals)
	if c.Terms[0] != hits || c.Terms[:2][1] != (api.Term{}) {
		t.Error("a copy's terms are the card's own:", c.Terms[:2])
	}
	x = card.Copy(c)
	c.Terms[0].N = 9
	if x.Terms[0] != hits {
		t.Error("the card's terms are its copy's own")
	}
	c = api.Card{Kind: api.Land, Terms: roomy[:0]}
	_ = append(card.Copy(c).Terms, heals)
	if roomy[0].Op != api.Hurt {
		t.Error("a copy without terms shares memory")
	}
}
