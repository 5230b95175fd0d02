package card_test

import (
	"math"
	"reflect"
	"slices"
	"strings"
	"testing"

	"hydra/api"
	"hydra/card"
)

func puts(t *testing.T, name string, c api.Card, want string, err api.Errno) {
	t.Helper()
	if s, e := card.Codec().Put(c); s != want || e != err {
		t.Errorf("%s: Put = %q, %d; want %q, %d", name, s, e, want, err)
	}
}

func gets(t *testing.T, name, s string, want api.Card, err api.Errno) {
	t.Helper()
	x, e := card.Codec().Get(s)
	if !card.Same(x, want) || e != err || err != api.OK && x.Terms != nil {
		t.Errorf("%s: Get(%q) = %v, %d; want %v, %d", name, s, x, e, want, err)
	}
}

func reads(t *testing.T, name, s string, at int, want api.Card, behind int, err api.Errno) {
	t.Helper()
	x, n, e := card.Codec().Next(s, at)
	if !card.Same(x, want) || n != behind || e != err || err != api.OK && x.Terms != nil {
		t.Errorf("%s: Next(%q, %d) = %v, %d, %d; want %v, %d, %d", name, s, at, x, n, e, want, behind, err)
	}
}

// plain is a card's bytes, made without the codec; its numbers must fit.
func plain(c api.Card) string {
	l := []int{c.Kind, c.Cost, c.Power, c.Tough, c.Keys, c.When, len(c.Terms)}
	for _, x := range c.Terms {
		l = append(l, x.Op, x.N, x.On)
	}
	var b []byte
	for _, n := range l {
		b = append(b, byte(n))
	}
	return string(b)
}

func TestCodecOfCardsThatMayBe(t *testing.T) {
	bolt := good()["bolt"]
	puts(t, "bolt", bolt, "\x03\x01\x00\x00\x00\x00\x02\x01\x03\x01\x02\x01\x00", api.OK)
	most := good()["most creature"]
	puts(t, "most", most, "\x02\x09\x14\x14\x1f\x03\x04"+strings.Repeat("\x02\x01\x00", 4), api.OK)
	puts(t, "land", good()["land"], "\x01\x00\x00\x00\x00\x00\x00", api.OK)
	for name, c := range good() {
		s := plain(c)
		puts(t, name, c, s, api.OK)
		gets(t, name, s, c, api.OK)
		reads(t, name, "zz"+s+"z", 2, c, 2+len(s), api.OK)
		gets(t, name, s+"\x00", api.Card{}, api.ErrForm)
		for n := range len(s) {
			gets(t, name, s[:n], api.Card{}, api.ErrShort)
			reads(t, name, "z"+s[:n], 1, api.Card{}, 1, api.ErrShort)
		}
		reads(t, name, s, -1, api.Card{}, -1, api.ErrArg)
		reads(t, name, s, len(s), api.Card{}, len(s), api.ErrShort)
		reads(t, name, s, len(s)+1, api.Card{}, len(s)+1, api.ErrArg)
	}
}

func TestCodecOfCardsThatMayNotBe(t *testing.T) {
	for name, c := range bad() {
		if len(c.Terms) > api.MaxTerms {
			puts(t, name, c, "", api.ErrLong)
		} else {
			puts(t, name, c, plain(c), api.OK)
		}
		gets(t, name, plain(c), api.Card{}, api.ErrForm)
		reads(t, name, "zz"+plain(c), 2, api.Card{}, 2, api.ErrForm)
	}
	full := api.Card{Kind: 255, Cost: 255, Power: 255, Tough: 255, Keys: 255, When: 255, Terms: slices.Repeat([]api.Term{{Op: 255, N: 255, On: 255}}, 4)}
	puts(t, "full", full, strings.Repeat("\xff", 6)+"\x04"+strings.Repeat("\xff", 12), api.OK)
	gets(t, "full", plain(full), api.Card{}, api.ErrForm)
}

func TestCodecOfNumbersThatDoNotFit(t *testing.T) {
	for _, n := range []int{-1, 256, math.MaxInt, math.MinInt} {
		for _, c := range changed(good()["bolt"], n) {
			puts(t, "number", c, "", api.ErrRange)
			// Its own numbers are told ahead of its terms.
			c.Terms = make([]api.Term, 5)
			puts(t, "number, and five terms", c, "", api.ErrRange)
		}
		for _, x := range []api.Term{{Op: n}, {N: n}, {On: n}} {
			puts(t, "term", api.Card{Terms: []api.Term{x}}, "", api.ErrRange)
			puts(t, "fourth term", api.Card{Terms: []api.Term{heals, hits, heals, x}}, "", api.ErrRange)
			puts(t, "five terms", api.Card{Terms: []api.Term{x, x, x, x, x}}, "", api.ErrLong)
		}
	}
}

// How many terms there are is told ahead of those that lack; and bytes that lack ahead of what the card is.
func TestCodecOfTooManyTerms(t *testing.T) {
	head := "\x03\x00\x00\x00\x00\x00"
	for _, s := range []string{"\x05", "\xff", "\x05" + strings.Repeat("\x02\x01\x00", 5)} {
		gets(t, "terms", head+s, api.Card{}, api.ErrForm)
	}
	gets(t, "terms", head+"\x02\x02\x01\x00\x02\x01", api.Card{}, api.ErrShort)
	gets(t, "no kind", "\x09\x00\x00\x00\x00\x00", api.Card{}, api.ErrShort)
	gets(t, "no term", head+"\x02\x09\x01\x00", api.Card{}, api.ErrShort)
}

// Just what may be is read, and it is written as just these bytes.
func TestBytesAndCardsLeadToOneAnother(t *testing.T) {
	c := card.Codec()
	for name, x := range good() {
		s := plain(x)
		for at := range len(s) {
			for n := range 256 {
				b := []byte(s)
				b[at] = byte(n)
				y, e := c.Get(string(b))
				if e != api.OK {
					continue
				}
				if card.Check(y) != api.OK {
					t.Errorf("%s: %q is read", name, b)
				}
				puts(t, name, y, string(b), api.OK)
			}
		}
	}
	for _, x := range changed(good()["bear"], 3) {
		y, e := c.Get(plain(x))
		if (e == api.OK) != (card.Check(x) == api.OK) || e == api.OK && !card.Same(x, y) {
			t.Error(x, y, e)
		}
	}
}

func TestCodecSharesNothing(t *testing.T) {
	c := card.Codec()
	bolt := good()["bolt"]
	s, _ := c.Put(bolt)
	if !reflect.DeepEqual(bolt, good()["bolt"]) {
		t.Error("Put wrote into its argument:", bolt)
	}
	a, _ := c.Get(s)
	b, _ := c.Get(s)
	a.Terms[0].N = 9
	_ = append(a.Terms[:1], heals, heals)
	if !card.Same(b, bolt) {
		t.Error("two answers share memory:", b)
	}
	if x, _ := c.Get(s); !card.Same(x, bolt) {
		t.Error("an answer is kept:", x)
	}
}
