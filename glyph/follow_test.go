package glyph_test

import (
	"slices"
	"testing"

	"redline/api"
	"redline/glyph"
)

// P3.5: what was put in is taken out again, and what was taken out is put in again.
func TestInAndOut(t *testing.T) {
	ss := small(3, text("ab"))
	for _, r := range append(small(5, text("ab")), good()) {
		for at := range len(r) + 1 {
			for _, s := range append(slices.Clone(ss), good()) {
				in, e := glyph.Insert(r, at, s)
				out, f := glyph.Remove(in, at, s)
				if e != api.OK || f != api.OK || !equal(out, r) {
					t.Fatalf("%x, %d, %x: put in and taken out: %x, %d, %d", r, at, s, out, e, f)
				}
				if out, e = glyph.Remove(r, at, s); e != api.OK {
					continue
				}
				if in, e = glyph.Insert(out, at, s); e != api.OK || !equal(in, r) {
					t.Fatalf("%x, %d, %x: taken out and put in: %x, %d", r, at, s, in, e)
				}
			}
		}
	}
}

// P3.2: the calls fit together: a text put in between what a cut tells is the text with that put in.
func TestCutFits(t *testing.T) {
	for _, r := range append(small(5, text("ab")), good()) {
		for at := range len(r) + 1 {
			a, b, e := glyph.Cut(r, at)
			if e != api.OK || len(a) != at || !equal(slices.Concat(a, b), r) {
				t.Fatalf("%x, %d: got %x, %x, %d", r, at, a, b, e)
			}
			in, _ := glyph.Insert(r, at, text("xy"))
			if !glyph.Same(in, slices.Concat(a, text("xy"), b)) {
				t.Fatalf("%x, %d: got %x", r, at, in)
			}
			first, _ := glyph.Remove(r, at, b)
			second, _ := glyph.Remove(r, 0, a)
			if !glyph.Same(first, a) || !glyph.Same(second, b) {
				t.Fatalf("%x, %d: got %x, %x", r, at, first, second)
			}
		}
	}
}

// P3.5: what is quoted is unquoted.
func TestQuotedAndUnquoted(t *testing.T) {
	all := append(small(2, good()), good())
	var every []rune
	for c := rune(0); c <= 0x10ffff; c++ {
		if c == 0xd800 {
			c = 0xe000
		}
		every = append(every, c)
	}
	for _, r := range append(all, every) {
		s, e := glyph.Quote(r)
		got, at, f := glyph.Unquote(s)
		if e != api.OK || f != api.OK || at != 0 || !equal(got, r) {
			t.Fatalf("%.20x: got %.20s, %.20x, %d, %d, %d", r, s, got, at, e, f)
		}
	}
}

// P3.5: what is unquoted is a text, and is quoted as it was; so no two strings say the same text.
func TestUnquotedAndQuoted(t *testing.T) {
	many := 0
	for _, r := range small(7, text("\"\\0a;")) {
		s := string(r)
		for _, x := range []string{s, `"` + s + `"`} {
			got, _, e := glyph.Unquote(x)
			if e != api.OK {
				continue
			}
			many++
			if back, f := glyph.Quote(got); back != x || f != api.OK || glyph.Check(got) != api.OK {
				t.Fatalf("%s: got %x, %s, %d", x, got, back, f)
			}
		}
	}
	if many == 0 {
		t.Error("no string was one")
	}
}
