package glyph_test

import (
	"testing"

	"redline/api"
	"redline/glyph"
)

// P3.1: a text with a number that is no rune, wherever it stands, may not be.
func TestCheck(t *testing.T) {
	for _, r := range [][]rune{nil, {}, text("abc"), good(), long(1 << 16), runes(0xd7ff, 0xe000)} {
		if e := glyph.Check(r); e != api.OK {
			t.Errorf("%.20x: got %d", r, e)
		}
	}
	for _, c := range good() {
		if e := glyph.Check(runes(c)); e != api.OK {
			t.Errorf("%x: got %d", c, e)
		}
	}
	for _, c := range bad() {
		for _, r := range [][]rune{
			runes(c),
			runes(c, 'a', 'b'),
			runes('a', c, 'b'),
			runes('a', 'b', c),
			runes(c, c),
			runes(0, c),
			runes(c, 0x10ffff),
			with(long(1<<16), 0, c),
			with(long(1<<16), 1<<16-1, c),
		} {
			if e := glyph.Check(r); e != api.ErrRune {
				t.Errorf("%.20x: got %d", r, e)
			}
		}
	}
}

// P3.1: of every number that lies near what is a rune.
func TestCheckAll(t *testing.T) {
	for c := rune(-0x1000); c <= 0x112000; c++ {
		want := api.OK
		if c < 0 || c >= 0xd800 && c < 0xe000 || c >= 0x110000 {
			want = api.ErrRune
		}
		if e := glyph.Check(runes(c)); e != want {
			t.Fatalf("%x: got %d, want %d", c, e, want)
		}
	}
}

// P3.1: the same are those with the same runes in the same order, and no others; nil and an empty one are the same (R3).
func TestSame(t *testing.T) {
	for _, x := range []struct {
		a, b []rune
		want bool
	}{
		{nil, nil, true},
		{nil, runes(), true},
		{runes(), runes(), true},
		{nil, text("abc")[:0], true},
		{nil, text("a"), false},
		{nil, runes(0), false},
		{text("a"), text("a"), true},
		{text("a"), text("b"), false},
		{text("a"), text("A"), false},
		{text("a"), text("aa"), false},
		{text("abc"), text("abc"), true},
		{text("abc"), text("abd"), false},
		{text("abc"), text("xbc"), false},
		{text("abc"), text("axc"), false},
		{text("abc"), text("ab"), false},
		{text("abc"), text("bc"), false},
		{text("ab"), text("ba"), false},
		{text("a\u0301"), text("\u00e1"), false},
		{runes(0xe9), runes(0xe9), true},
		{runes(0x10061), runes(0x61), false},
		{runes(0x10ffff), runes(0xffff), false},
		{runes(0, 0), runes(0), false},
		{good(), good(), true},
		{long(1000), long(1000), true},
		{long(1000), long(1001), false},
		{with(long(1000), 999, 'x'), with(long(1000), 999, 'y'), false},
	} {
		if glyph.Same(x.a, x.b) != x.want || glyph.Same(x.b, x.a) != x.want {
			t.Errorf("%.20x, %.20x: the same or not is told wrongly", x.a, x.b)
		}
	}
}

// P3.1: it is also told of what is no text.
func TestSameOfBad(t *testing.T) {
	for _, a := range bad() {
		for _, b := range bad() {
			if glyph.Same(runes('a', a), runes('a', b)) != (a == b) {
				t.Errorf("%x, %x: the same or not is told wrongly", a, b)
			}
		}
		if glyph.Same(runes(a), runes(0xfffd)) || glyph.Same(runes(a), nil) {
			t.Errorf("%x is told as another one", a)
		}
	}
}

// P3.1: of all small texts.
func TestSameAll(t *testing.T) {
	all := small(3, runes('a', 'b', 0))
	for i, a := range all {
		for j, b := range all {
			if glyph.Same(a, b) != (i == j) {
				t.Fatalf("%x, %x: the same or not is told wrongly", a, b)
			}
		}
	}
}

// R2: arguments are not changed, nor what lies behind their ends.
func TestCheckArguments(t *testing.T) {
	for _, x := range [][]rune{nil, text("abc"), good(), bad()} {
		r, room := roomy(x)
		other, room2 := roomy(x)
		glyph.Check(r)
		glyph.Same(r, other)
		if !equal(r, x) || !equal(other, x) {
			t.Errorf("%x became %x, %x", x, r, other)
		}
		wantUntouched(t, room, room2)
	}
}
