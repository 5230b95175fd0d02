package octet_test

import (
	"math"
	"reflect"
	"slices"
	"strings"
	"testing"

	"hydra/api"
	"hydra/octet"
)

// puts asks for the bytes of a value; beside an error there are none.
func puts[T any](t *testing.T, name string, c octet.Codec[T], x T, want string, err api.Errno) {
	t.Helper()
	if s, e := c.Put(x); s != want || e != err {
		t.Errorf("%s: Put(%v) = %q, %d; want %q, %d", name, x, s, e, want, err)
	}
}

// reads asks for the value at a place, and the place behind it.
func reads[T any](t *testing.T, name string, c octet.Codec[T], s string, at int, want T, behind int, err api.Errno) {
	t.Helper()
	if x, n, e := c.Next(s, at); !alike(x, want) || n != behind || e != err {
		t.Errorf("%s: Next(%q, %d) = %v, %d, %d; want %v, %d, %d", name, s, at, x, n, e, want, behind, err)
	}
}

// gets asks for the value of just these bytes.
func gets[T any](t *testing.T, name string, c octet.Codec[T], s string, want T, err api.Errno) {
	t.Helper()
	if x, e := c.Get(s); !alike(x, want) || e != err {
		t.Errorf("%s: Get(%q) = %v, %d; want %v, %d", name, s, x, e, want, err)
	}
}

// alike takes an empty list and no list as one.
func alike(a, b any) bool {
	x, y := reflect.ValueOf(a), reflect.ValueOf(b)
	if x.Kind() != reflect.Slice {
		return reflect.DeepEqual(a, b)
	}
	if x.Len() != y.Len() {
		return false
	}
	for i := range x.Len() {
		if !alike(x.Index(i).Interface(), y.Index(i).Interface()) {
			return false
		}
	}
	return true
}

// canon asks of all texts of at most so many bytes: what is read is written as just these bytes, and has no other text.
func canon[T any](t *testing.T, name string, c octet.Codec[T], bytes string, most int) {
	t.Helper()
	count := 0
	var walk func(s string)
	walk = func(s string) {
		if x, e := c.Get(s); e == api.OK {
			count++
			puts(t, name, c, x, s, api.OK)
		}
		if len(s) == most {
			return
		}
		for i := range len(bytes) {
			walk(s + bytes[i:i+1])
		}
	}
	walk("")
	if count == 0 {
		t.Errorf("%s: nothing is read", name)
	}
}

// allBytes is the 256 bytes.
func allBytes() string {
	b := make([]byte, 256)
	for i := range b {
		b[i] = byte(i)
	}
	return string(b)
}

func TestNum(t *testing.T) {
	for _, v := range []struct {
		width, x int
		want     string
	}{
		{1, 0, "\x00"}, {1, 255, "\xff"},
		{2, 0, "\x00\x00"}, {2, 1, "\x01\x00"}, {2, 300, "\x2c\x01"}, {2, 65535, "\xff\xff"},
		{3, 0x010203, "\x03\x02\x01"}, {3, 1<<24 - 1, "\xff\xff\xff"},
		{4, 0x01020304, "\x04\x03\x02\x01"}, {4, 1<<32 - 1, "\xff\xff\xff\xff"},
	} {
		c := octet.Num(v.width)
		puts(t, "Num", c, v.x, v.want, api.OK)
		gets(t, "Num", c, v.want, v.x, api.OK)
		reads(t, "Num", c, "zz"+v.want+"z", 2, v.x, 2+v.width, api.OK)
	}
	for width := 1; width <= 4; width++ {
		for _, x := range []int{-1, 1 << (8 * width), math.MaxInt, math.MinInt} {
			puts(t, "Num", octet.Num(width), x, "", api.ErrRange)
		}
	}
}

func TestNumWidthIsHeld(t *testing.T) {
	for _, width := range []int{0, -1, math.MinInt} {
		puts(t, "Num", octet.Num(width), 7, "\x07", api.OK)
		puts(t, "Num", octet.Num(width), 256, "", api.ErrRange)
		puts(t, "Turn", octet.Turn(width), 7, "\x87", api.OK)
		puts(t, "Turn", octet.Turn(width), 128, "", api.ErrRange)
	}
	for _, width := range []int{5, 8, math.MaxInt} {
		puts(t, "Num", octet.Num(width), 7, "\x07\x00\x00\x00", api.OK)
		puts(t, "Num", octet.Num(width), 1<<32, "", api.ErrRange)
		puts(t, "Turn", octet.Turn(width), 7, "\x07\x00\x00\x80", api.OK)
		puts(t, "Turn", octet.Turn(width), 1<<31, "", api.ErrRange)
	}
}

func TestTurn(t *testing.T) {
	for _, v := range []struct {
		width, x int
		want     string
	}{
		{1, -128, "\x00"}, {1, -1, "\x7f"}, {1, 0, "\x80"}, {1, 127, "\xff"},
		{2, -32768, "\x00\x00"}, {2, 0, "\x00\x80"}, {2, 32767, "\xff\xff"},
		{3, -1 << 23, "\x00\x00\x00"}, {3, 1<<23 - 1, "\xff\xff\xff"},
		{4, -1 << 31, "\x00\x00\x00\x00"}, {4, -1, "\xff\xff\xff\x7f"}, {4, 1<<31 - 1, "\xff\xff\xff\xff"},
	} {
		c := octet.Turn(v.width)
		puts(t, "Turn", c, v.x, v.want, api.OK)
		gets(t, "Turn", c, v.want, v.x, api.OK)
		reads(t, "Turn", c, "zz"+v.want+"z", 2, v.x, 2+v.width, api.OK)
	}
	for width := 1; width <= 4; width++ {
		half := 1 << (8*width - 1)
		for _, x := range []int{-half - 1, half, math.MaxInt, math.MinInt} {
			puts(t, "Turn", octet.Turn(width), x, "", api.ErrRange)
		}
	}
}

func TestBool(t *testing.T) {
	puts(t, "Bool", octet.Bool(), false, "\x00", api.OK)
	puts(t, "Bool", octet.Bool(), true, "\x01", api.OK)
	gets(t, "Bool", octet.Bool(), "\x00", false, api.OK)
	gets(t, "Bool", octet.Bool(), "\x01", true, api.OK)
	for b := 2; b < 256; b++ {
		gets(t, "Bool", octet.Bool(), string([]byte{byte(b)}), false, api.ErrForm)
	}
	reads(t, "Bool", octet.Bool(), "\x02\x01", 1, true, 2, api.OK)
	reads(t, "Bool", octet.Bool(), "\x01\x02", 1, false, 1, api.ErrForm)
	reads(t, "Bool", octet.Bool(), "\x01", 1, false, 1, api.ErrShort)
}

func TestPlacesAndShortBytes(t *testing.T) {
	c := octet.Num(2)
	for _, at := range []int{-1, 4, math.MinInt, math.MaxInt} {
		reads(t, "Num", c, "abc", at, 0, at, api.ErrArg)
		reads(t, "Turn", octet.Turn(2), "abc", at, 0, at, api.ErrArg)
		reads(t, "Bool", octet.Bool(), "\x01\x01\x01", at, false, at, api.ErrArg)
		reads(t, "List", octet.List(c, 9), "\x00\x00\x00", at, nil, at, api.ErrArg)
	}
	reads(t, "Num", c, "abc", 0, 0x6261, 2, api.OK)
	reads(t, "Num", c, "abc", 1, 0x6362, 3, api.OK)
	reads(t, "Num", c, "abc", 2, 0, 2, api.ErrShort)
	reads(t, "Num", c, "abc", 3, 0, 3, api.ErrShort)
	reads(t, "Turn", octet.Turn(2), "abc", 2, 0, 2, api.ErrShort)
	gets(t, "Num", c, "", 0, api.ErrShort)
	gets(t, "Num", c, "a", 0, api.ErrShort)
	gets(t, "Num", c, "abc", 0, api.ErrForm)
	gets(t, "Bool", octet.Bool(), "\x01\x01", false, api.ErrForm)
}

func TestList(t *testing.T) {
	c := octet.List(octet.Num(2), 9)
	puts(t, "List", c, []int{1, 300}, "\x02\x01\x00\x2c\x01", api.OK)
	gets(t, "List", c, "\x02\x01\x00\x2c\x01", []int{1, 300}, api.OK)
	reads(t, "List", c, "z\x01\x05\x00z", 1, []int{5}, 4, api.OK)
	puts(t, "List", c, nil, "\x00", api.OK)
	puts(t, "List", c, []int{}, "\x00", api.OK)
	gets(t, "List", c, "\x00", nil, api.OK)
	puts(t, "List", c, make([]int, 9), "\x09"+strings.Repeat("\x00", 18), api.OK)
	puts(t, "List", c, make([]int, 10), "", api.ErrLong)
	puts(t, "List", c, []int{1, 65536, 2}, "", api.ErrRange)
	// A list that is too long is told ahead of its items.
	puts(t, "List", c, slices.Repeat([]int{-1}, 10), "", api.ErrLong)
}

func TestListThatIsNone(t *testing.T) {
	c := octet.List(octet.Num(2), 2)
	reads(t, "List", c, "zz", 2, nil, 2, api.ErrShort)
	reads(t, "List", c, "z\x02\x01\x00\x02", 1, nil, 1, api.ErrShort)
	reads(t, "List", c, "z\x01", 1, nil, 1, api.ErrShort)
	// Its count is told ahead of the bytes that it lacks.
	reads(t, "List", c, "z\x03", 1, nil, 1, api.ErrForm)
	reads(t, "List", c, "z\x03\x01\x00\x01\x00\x01\x00", 1, nil, 1, api.ErrForm)
	reads(t, "List", octet.List(octet.Bool(), 2), "z\x02\x01\x07", 1, nil, 1, api.ErrForm)
	// The first item's error is told.
	reads(t, "List", octet.List(octet.Bool(), 3), "\x02\x07", 0, nil, 0, api.ErrForm)
	gets(t, "List", c, "\x01\x01\x00\x00", nil, api.ErrForm)
}

func TestListOfMostIsHeld(t *testing.T) {
	for _, most := range []int{0, -1, math.MinInt} {
		c := octet.List(octet.Num(1), most)
		puts(t, "List", c, nil, "\x00", api.OK)
		puts(t, "List", c, []int{1}, "", api.ErrLong)
		gets(t, "List", c, "\x01\x01", nil, api.ErrForm)
	}
	for _, most := range []int{255, 256, math.MaxInt} {
		c := octet.List(octet.Num(1), most)
		long := slices.Repeat([]int{7}, 255)
		puts(t, "List", c, long, "\xff"+strings.Repeat("\x07", 255), api.OK)
		gets(t, "List", c, "\xff"+strings.Repeat("\x07", 255), long, api.OK)
		puts(t, "List", c, append(long, 7), "", api.ErrLong)
	}
}

func TestListOfLists(t *testing.T) {
	c := octet.List(octet.List(octet.Num(1), 3), 2)
	puts(t, "lists", c, [][]int{{1, 2}, {}}, "\x02\x02\x01\x02\x00", api.OK)
	gets(t, "lists", c, "\x02\x02\x01\x02\x00", [][]int{{1, 2}, {}}, api.OK)
	puts(t, "lists", c, [][]int{{1}, {1, 2, 3, 4}}, "", api.ErrLong)
	puts(t, "lists", c, [][]int{{1, -1}, {1, 2, 3, 4}}, "", api.ErrRange)
	puts(t, "lists", c, [][]int{{1, 2, 3, 4}, {-1}}, "", api.ErrLong)
	reads(t, "lists", c, "z\x02\x00\x04", 1, nil, 1, api.ErrForm)
	reads(t, "lists", c, "z\x02\x00\x02\x01", 1, nil, 1, api.ErrShort)
}

func TestListSharesNothing(t *testing.T) {
	c := octet.List(octet.List(octet.Num(1), 3), 3)
	in := [][]int{{1, 2}, {3}}
	s, _ := c.Put(in)
	if !alike(in, [][]int{{1, 2}, {3}}) {
		t.Error("Put wrote into its argument:", in)
	}
	a, _ := c.Get(s)
	b, _ := c.Get(s)
	a[0][0] = 99
	_ = append(a[0], 98)
	a[1] = nil
	if !alike(b, in) {
		t.Error("two answers share memory:", b)
	}
	if a, _ := c.Get(s); !alike(a, in) {
		t.Error("an answer is kept:", a)
	}
}

// evens is the even numbers below 200, as their halves.
func evens() octet.Codec[int] {
	return octet.Map(octet.Num(1),
		func(n int) (int, bool) { return 2 * n, n < 100 },
		func(x int) int { return x / 2 })
}

func TestMap(t *testing.T) {
	c := evens()
	puts(t, "Map", c, 10, "\x05", api.OK)
	gets(t, "Map", c, "\x05", 10, api.OK)
	reads(t, "Map", c, "z\x63z", 1, 198, 2, api.OK)
	// What to tells to be none: nothing of what it answers beside that is told.
	reads(t, "Map", c, "z\x64", 1, 0, 1, api.ErrForm)
	reads(t, "Map", c, "z", 1, 0, 1, api.ErrShort)
	reads(t, "Map", c, "z", 2, 0, 2, api.ErrArg)
	gets(t, "Map", c, "\x05\x05", 0, api.ErrForm)
	puts(t, "Map", c, 200, "", api.ErrForm)
	puts(t, "Map", c, 512, "", api.ErrRange)
	puts(t, "Map", c, -4, "", api.ErrRange)
	words := octet.Map(octet.List(octet.Num(1), 2),
		func(l []int) (string, bool) { return strings.Repeat("x", len(l)), true },
		func(s string) []int { return make([]int, len(s)) })
	puts(t, "Map", words, "xx", "\x02\x00\x00", api.OK)
	puts(t, "Map", words, "xxx", "", api.ErrLong)
	gets(t, "Map", words, "\x03", "", api.ErrForm)
	gets(t, "Map", words, "\x01\x00", "x", api.OK)
}

func TestMake(t *testing.T) {
	asked := 0
	c := octet.Make(
		func(x int) (string, api.Errno) {
			if x < 0 {
				return "junk", api.ErrCard
			}
			return strings.Repeat("x", x) + ".", api.OK
		},
		func(s string, at int) (int, int, api.Errno) {
			asked++
			if at < 0 || at > len(s) {
				t.Error("asked at", at)
			}
			n := strings.IndexByte(s[at:], '.')
			if n < 0 {
				return 5, len(s), api.ErrDeck
			}
			return n, at + n + 1, api.OK
		})
	puts(t, "Make", c, 2, "xx.", api.OK)
	puts(t, "Make", c, -1, "", api.ErrCard)
	reads(t, "Make", c, "x.xx.", 2, 2, 5, api.OK)
	reads(t, "Make", c, "x.xx", 2, 0, 2, api.ErrDeck)
	gets(t, "Make", c, "x.x", 0, api.ErrForm)
	gets(t, "Make", c, "x", 0, api.ErrDeck)
	gets(t, "Make in List", octet.List(c, 3), "\x02x.xx.", []int{1, 2}, api.OK)
	asked = 0
	reads(t, "Make", c, "x.", -1, 0, -1, api.ErrArg)
	reads(t, "Make", c, "x.", 3, 0, 3, api.ErrArg)
	if asked != 0 {
		t.Error("next is asked at places that there aren't")
	}
	reads(t, "Make", c, "x.", 2, 0, 2, api.ErrDeck)
	if asked != 1 {
		t.Error("next isn't asked behind the last byte")
	}
}

func TestZeroCodecs(t *testing.T) {
	one := octet.Num(1)
	put := func(int) (string, api.Errno) { return "", api.OK }
	next := func(s string, at int) (int, int, api.Errno) { return 0, at, api.OK }
	to := func(n int) (int, bool) { return n, true }
	from := func(x int) int { return x }
	for name, c := range map[string]octet.Codec[int]{
		"Codec":              {},
		"Make(nil, next)":    octet.Make(nil, next),
		"Make(put, nil)":     octet.Make(put, nil),
		"Make(nil, nil)":     octet.Make[int](nil, nil),
		"Map(zero, ..)":      octet.Map(octet.Codec[int]{}, to, from),
		"Map(c, nil, from)":  octet.Map(one, nil, from),
		"Map(c, to, nil)":    octet.Map(one, to, nil),
		"Map(Map(zero, ..))": octet.Map(octet.Map(octet.Codec[int]{}, to, from), to, from),
	} {
		zero(t, name, c)
	}
	zero(t, "List", octet.List(octet.Codec[int]{}, 3))
	zero(t, "List of lists", octet.List(octet.List(octet.Codec[bool]{}, 3), 3))
}

// zero asks that a codec does nothing.
func zero[T any](t *testing.T, name string, c octet.Codec[T]) {
	t.Helper()
	var x T
	puts(t, name, c, x, "", api.ErrArg)
	for _, s := range []string{"", "\x00", "\x00\x00\x00"} {
		gets(t, name, c, s, x, api.ErrArg)
		for _, at := range []int{-1, 0, 1, 9} {
			reads(t, name, c, s, at, x, at, api.ErrArg)
		}
		for x := range octet.All(c, s) {
			t.Error(name, "tells", x)
		}
	}
}

func TestPanicsAreCaught(t *testing.T) {
	c := octet.Make(
		func(x int) (string, api.Errno) { panic("put") },
		func(s string, at int) (int, int, api.Errno) { return int(s[at]), at + 1, api.OK })
	puts(t, "Make", c, 1, "", api.ErrArg)
	reads(t, "Make", c, "ab", 2, 0, 2, api.ErrArg)
	if l := slices.Collect(octet.All(c, "ab")); !slices.Equal(l, []int{'a', 'b'}) {
		t.Error(l)
	}
	m := octet.Map(octet.Num(1),
		func(n int) (int, bool) { return 10 / n, true },
		func(x int) int { return 10 / x })
	puts(t, "Map", m, 0, "", api.ErrArg)
	puts(t, "Map", m, 11, "", api.ErrArg)
	reads(t, "Map", m, "z\x00", 1, 0, 1, api.ErrArg)
	reads(t, "List of Map", octet.List(m, 3), "z\x02\x01\x00", 1, nil, 1, api.ErrArg)
}

func TestAll(t *testing.T) {
	c := octet.Num(2)
	for s, want := range map[string][]int{
		"": nil, "a": nil, "ab": {0x6261}, "abcd": {0x6261, 0x6463}, "abcde": {0x6261, 0x6463},
	} {
		all := octet.All(c, s)
		for range 2 {
			if l := slices.Collect(all); !slices.Equal(l, want) {
				t.Errorf("%q: %v", s, l)
			}
		}
	}
	if l := slices.Collect(octet.All(octet.Bool(), "\x01\x00\x02\x01")); !slices.Equal(l, []bool{true, false}) {
		t.Error(l)
	}
	lists := slices.Collect(octet.All(octet.List(octet.Num(1), 2), "\x01\x05\x00\x02\x07\x08\x02\x09"))
	if !alike(lists, [][]int{{5}, {}, {7, 8}}) {
		t.Error(lists)
	}
}

func TestAllEndsWhenNoMoreIsAskedFor(t *testing.T) {
	asked := 0
	c := octet.Make(
		func(x int) (string, api.Errno) { return "", api.OK },
		func(s string, at int) (int, int, api.Errno) {
			asked++
			return at, at + 1, api.OK
		})
	var l []int
	for x := range octet.All(c, "abcdef") {
		if l = append(l, x); len(l) == 3 {
			break
		}
	}
	if !slices.Equal(l, []int{0, 1, 2}) || asked != 3 {
		t.Error(l, asked)
	}
}

func TestAllStopsAtAValueWithoutBytes(t *testing.T) {
	step := 0
	c := octet.Make(
		func(x int) (string, api.Errno) { return "", api.OK },
		func(s string, at int) (int, int, api.Errno) {
			if at < 2 {
				return at, at + 1, api.OK
			}
			return at, at + step, api.OK
		})
	// A place ahead of the value has no bytes either.
	for _, step = range []int{0, -1} {
		var l []int
		for x := range octet.All(c, "abcdef") {
			if l = append(l, x); len(l) > 9 {
				break
			}
		}
		if !slices.Equal(l, []int{0, 1}) {
			t.Error(step, l)
		}
	}
}

func TestAllLetsPanicsOfTheLoopOut(t *testing.T) {
	defer func() {
		if recover() != "mine" {
			t.Error("the loop's own panic is lost")
		}
	}()
	for range octet.All(octet.Num(1), "ab") {
		panic("mine")
	}
}

// What is written is read, and nothing else is read as that.
func TestBytesAndValuesLeadToOneAnother(t *testing.T) {
	for x := range 1 << 16 {
		s, e := octet.Num(2).Put(x)
		if y, f := octet.Num(2).Get(s); e != api.OK || f != api.OK || y != x {
			t.Fatal(x, s, e, y, f)
		}
		s, e = octet.Turn(2).Put(x - 1<<15)
		if y, f := octet.Turn(2).Get(s); e != api.OK || f != api.OK || y != x-1<<15 {
			t.Fatal(x, s, e, y, f)
		}
	}
	canon(t, "Num(1)", octet.Num(1), allBytes(), 2)
	canon(t, "Num(2)", octet.Num(2), allBytes(), 2)
	canon(t, "Turn(1)", octet.Turn(1), allBytes(), 2)
	canon(t, "Turn(2)", octet.Turn(2), allBytes(), 2)
	canon(t, "Bool", octet.Bool(), allBytes(), 2)
	canon(t, "Map", evens(), allBytes(), 2)
	canon(t, "List(Num(1))", octet.List(octet.Num(1), 2), "\x00\x01\x02\x03", 4)
	canon(t, "List(Bool)", octet.List(octet.Bool(), 3), "\x00\x01\x02\x03", 5)
	canon(t, "lists", octet.List(octet.List(octet.Turn(1), 2), 2), "\x00\x01\x02\x03", 6)
}

// The document promises as much as 2^16 levels of nesting.
func TestDeepCodecs(t *testing.T) {
	c := octet.Num(2)
	for range 1 << 16 {
		c = octet.Map(c,
			func(n int) (int, bool) { return n, n < 60000 },
			func(x int) int { return x })
	}
	puts(t, "deep", c, 300, "\x2c\x01", api.OK)
	puts(t, "deep", c, 65536, "", api.ErrRange)
	reads(t, "deep", c, "z\x2c\x01", 1, 300, 3, api.OK)
	reads(t, "deep", c, "z\xff\xff", 1, 0, 1, api.ErrForm)
	reads(t, "deep", c, "z\x2c", 1, 0, 1, api.ErrShort)
}
