package glyph_test

import (
	"math"
	"slices"
	"testing"

	"redline/api"
	"redline/glyph"
)

// P3.2: s is put in ahead of the rune at.
func TestInsert(t *testing.T) {
	wantChanged(t, glyph.Insert, []change{
		{nil, 0, nil, nil, api.OK},
		{runes(), 0, runes(), nil, api.OK},
		{nil, 0, text("x"), text("x"), api.OK},
		{text("abc"), 0, text("xy"), text("xyabc"), api.OK},
		{text("abc"), 1, text("xy"), text("axybc"), api.OK},
		{text("abc"), 2, text("xy"), text("abxyc"), api.OK},
		{text("abc"), 3, text("xy"), text("abcxy"), api.OK},
		{text("abc"), 0, nil, text("abc"), api.OK},
		{text("abc"), 2, nil, text("abc"), api.OK},
		{text("abc"), 3, runes(), text("abc"), api.OK},
		{text("aaa"), 1, text("aa"), text("aaaaa"), api.OK},
		{text("a"), 0, text("xyzxyz"), text("xyzxyza"), api.OK},
		{text("日本"), 1, text("é"), text("日é本"), api.OK},
		{runes(0, 0x10ffff), 1, runes(0xd7ff, 0xe000), runes(0, 0xd7ff, 0xe000, 0x10ffff), api.OK},
		{text("\"\\"), 1, text("\n"), text("\"\n\\"), api.OK},
		{long(7000), 7000, long(7), long(7007), api.OK},
		{long(7000), 6993, long(7), long(7007), api.OK},
		{good(), len(good()), good(), slices.Concat(good(), good()), api.OK},
	})
}

// P3.2: there is no place below 0, nor beyond the end; the texts come ahead of it.
func TestInsertRefused(t *testing.T) {
	all := []change{
		{nil, 1, nil, nil, api.ErrPos},
		{nil, -1, nil, nil, api.ErrPos},
		{nil, 1, text("x"), nil, api.ErrPos},
		{text("abc"), 4, text("x"), nil, api.ErrPos},
		{text("abc"), 4, text("xyz"), nil, api.ErrPos},
		{text("abc"), -1, text("x"), nil, api.ErrPos},
		{text("abc"), -3, text("x"), nil, api.ErrPos},
		{text("abc"), 4, nil, nil, api.ErrPos},
		{text("abc"), -1, nil, nil, api.ErrPos},
		{text("abc"), math.MaxInt, text("x"), nil, api.ErrPos},
		{text("abc"), math.MinInt, text("x"), nil, api.ErrPos},
		{text("abc"), 1 << 32, text("x"), nil, api.ErrPos},
		{text("abc"), 1<<32 + 1, text("x"), nil, api.ErrPos},
		{text("日本"), 3, text("x"), nil, api.ErrPos},
	}
	wantChanged(t, glyph.Insert, append(all, withBad()...))
}

// withBad are changes in which a text may not be, whatever else is wrong.
func withBad() []change {
	var out []change
	for _, c := range bad() {
		for _, at := range []int{0, 1, 3, 4, -1, math.MaxInt, math.MinInt} {
			out = append(out,
				change{runes('a', 'b', c), at, nil, nil, api.ErrRune},
				change{runes(c, 'b', 'c'), at, runes(c), nil, api.ErrRune},
				change{runes(c, 'b', 'c'), at, text("b"), nil, api.ErrRune},
				change{text("abc"), at, runes(c), nil, api.ErrRune},
				change{text("abc"), at, runes('a', c), nil, api.ErrRune},
				change{text("abc"), at, runes(c, 'b'), nil, api.ErrRune},
				change{nil, at, runes(c), nil, api.ErrRune},
			)
		}
	}
	return out
}

// P3.2: s is taken out, if it stands there.
func TestRemove(t *testing.T) {
	wantChanged(t, glyph.Remove, []change{
		{nil, 0, nil, nil, api.OK},
		{runes(), 0, runes(), nil, api.OK},
		{text("abc"), 0, text("a"), text("bc"), api.OK},
		{text("abc"), 1, text("b"), text("ac"), api.OK},
		{text("abc"), 2, text("c"), text("ab"), api.OK},
		{text("abc"), 0, text("abc"), nil, api.OK},
		{text("abc"), 1, text("bc"), text("a"), api.OK},
		{text("abc"), 0, nil, text("abc"), api.OK},
		{text("abc"), 1, runes(), text("abc"), api.OK},
		{text("abc"), 3, nil, text("abc"), api.OK},
		{text("axybc"), 1, text("xy"), text("abc"), api.OK},
		{text("ababab"), 2, text("ab"), text("abab"), api.OK},
		{text("aaaa"), 2, text("aa"), text("aa"), api.OK},
		{text("日é本"), 1, text("é"), text("日本"), api.OK},
		{runes(0, 0xd7ff, 0xe000, 0x10ffff), 1, runes(0xd7ff, 0xe000), runes(0, 0x10ffff), api.OK},
		{runes(0), 0, runes(0), nil, api.OK},
		{long(7007), 7000, long(7), long(7000), api.OK},
		{long(7007), 0, long(7), long(7000), api.OK},
		{slices.Concat(good(), good()), len(good()), good(), good(), api.OK},
	})
}

// P3.2: the texts come ahead of the place, and that ahead of what does not stand there.
func TestRemoveRefused(t *testing.T) {
	all := []change{
		{nil, 1, nil, nil, api.ErrPos},
		{nil, -1, nil, nil, api.ErrPos},
		{text("abc"), 4, nil, nil, api.ErrPos},
		{text("abc"), -1, nil, nil, api.ErrPos},
		{text("abc"), 4, text("c"), nil, api.ErrPos},
		{text("abc"), -1, text("a"), nil, api.ErrPos},
		{text("abc"), 4, text("x"), nil, api.ErrPos},
		{text("abc"), -1, text("xyzxyz"), nil, api.ErrPos},
		{text("abc"), math.MaxInt, text("c"), nil, api.ErrPos},
		{text("abc"), math.MinInt, text("a"), nil, api.ErrPos},
		{text("abc"), 1 << 32, text("a"), nil, api.ErrPos},
		{nil, 0, text("a"), nil, api.ErrSame},
		{text("abc"), 3, text("c"), nil, api.ErrSame},
		{text("abc"), 0, text("b"), nil, api.ErrSame},
		{text("abc"), 1, text("a"), nil, api.ErrSame},
		{text("abc"), 1, text("c"), nil, api.ErrSame},
		{text("abc"), 1, text("bx"), nil, api.ErrSame},
		{text("abc"), 1, text("xc"), nil, api.ErrSame},
		{text("abc"), 2, text("cd"), nil, api.ErrSame},
		{text("abc"), 0, text("abcd"), nil, api.ErrSame},
		{text("abc"), 1, text("abc"), nil, api.ErrSame},
		{text("abc"), 0, text("A"), nil, api.ErrSame},
		{text("abcabc"), 1, text("abc"), nil, api.ErrSame},
		{text("aaa"), 2, text("aa"), nil, api.ErrSame},
		{text("abc"), 0, long(1000), nil, api.ErrSame},
		{runes(0x10061), 0, runes(0x61), nil, api.ErrSame},
		{runes(0), 0, runes(0, 0), nil, api.ErrSame},
	}
	wantChanged(t, glyph.Remove, append(all, withBad()...))
}

// P3.2: those ahead of at, and those from at on.
func TestCut(t *testing.T) {
	for _, x := range []struct {
		r    []rune
		at   int
		a, b []rune
		e    api.Errno
	}{
		{nil, 0, nil, nil, api.OK},
		{runes(), 0, nil, nil, api.OK},
		{text("abc"), 0, nil, text("abc"), api.OK},
		{text("abc"), 1, text("a"), text("bc"), api.OK},
		{text("abc"), 2, text("ab"), text("c"), api.OK},
		{text("abc"), 3, text("abc"), nil, api.OK},
		{text("日本"), 1, text("日"), text("本"), api.OK},
		{runes(0, 0xd7ff, 0xe000, 0x10ffff), 2, runes(0, 0xd7ff), runes(0xe000, 0x10ffff), api.OK},
		{long(7007), 7000, long(7000), long(7), api.OK},
		{nil, 1, nil, nil, api.ErrPos},
		{nil, -1, nil, nil, api.ErrPos},
		{text("abc"), 4, nil, nil, api.ErrPos},
		{text("abc"), -1, nil, nil, api.ErrPos},
		{text("abc"), math.MaxInt, nil, nil, api.ErrPos},
		{text("abc"), math.MinInt, nil, nil, api.ErrPos},
		{text("abc"), 1 << 32, nil, nil, api.ErrPos},
	} {
		a, b, e := glyph.Cut(x.r, x.at)
		if e != x.e || !equal(a, x.a) || !equal(b, x.b) {
			t.Errorf("%.20x, %d: got %.20x, %.20x, %d", x.r, x.at, a, b, e)
		}
	}
	for _, c := range bad() {
		for _, r := range [][]rune{{c}, {c, 'b', 'c'}, {'a', 'b', c}} {
			for _, at := range []int{0, 1, 2, 3, 4, -1, math.MaxInt, math.MinInt} {
				if a, b, e := glyph.Cut(r, at); e != api.ErrRune || len(a)+len(b) != 0 {
					t.Errorf("%x, %d: got %x, %x, %d", r, at, a, b, e)
				}
			}
		}
	}
}

// inserted is what the chapter's words say, rune by rune.
func inserted(r []rune, at int, s []rune) ([]rune, api.Errno) {
	if at < 0 || at > len(r) {
		return nil, api.ErrPos
	}
	var out []rune
	for i := 0; i <= len(r); i++ {
		if i == at {
			for _, c := range s {
				out = append(out, c)
			}
		}
		if i < len(r) {
			out = append(out, r[i])
		}
	}
	return out, api.OK
}

// removed is what the chapter's words say, rune by rune.
func removed(r []rune, at int, s []rune) ([]rune, api.Errno) {
	if at < 0 || at > len(r) {
		return nil, api.ErrPos
	}
	for i, c := range s {
		if at+i >= len(r) || r[at+i] != c {
			return nil, api.ErrSame
		}
	}
	var out []rune
	for i, c := range r {
		if i < at || i >= at+len(s) {
			out = append(out, c)
		}
	}
	return out, api.OK
}

// P3.2: of all small texts, at all places in them and just beyond them.
func TestChangeAll(t *testing.T) {
	ss := small(3, text("ab"))
	for _, r := range small(5, text("ab")) {
		for at := -2; at <= len(r)+2; at++ {
			for _, s := range ss {
				want, e := inserted(r, at, s)
				if got, f := glyph.Insert(r, at, s); f != e || !equal(got, want) {
					t.Fatalf("%q, %d, %q put in: got %q, %d", string(r), at, string(s), string(got), f)
				}
				want, e = removed(r, at, s)
				if got, f := glyph.Remove(r, at, s); f != e || !equal(got, want) {
					t.Fatalf("%q, %d, %q taken out: got %q, %d", string(r), at, string(s), string(got), f)
				}
			}
		}
	}
}

// R2: arguments are not changed, nor what lies behind their ends; what is told shares nothing with them, nor with what is told another time.
func TestChangeNew(t *testing.T) {
	for name, how := range map[string]changer{"insert": glyph.Insert, "remove": glyph.Remove} {
		for _, x := range []struct {
			r  []rune
			at int
			s  []rune
		}{
			{nil, 0, nil},
			{nil, 0, text("xy")},
			{text("abc"), 0, nil},
			{text("abc"), 3, nil},
			{text("abc"), 0, text("a")},
			{text("abc"), 1, text("b")},
			{text("abc"), 1, text("bc")},
			{text("abc"), 0, text("abc")},
			{text("abc"), 3, text("x")},
			{text("abc"), 4, text("x")},
			{text("abc"), 1, text("x")},
			{runes('a', -1), 1, runes(-1)},
		} {
			want, e := how(slices.Clone(x.r), x.at, slices.Clone(x.s))
			r, room1 := roomy(x.r)
			s, room2 := roomy(x.s)
			one, _ := how(r, x.at, s)
			two, f := how(r, x.at, s)
			spoil(one)
			if !equal(r, x.r) || !equal(s, x.s) || !equal(two, want) || e != f {
				t.Errorf("%s: %x, %d, %x: shared: %x, %x, %x", name, x.r, x.at, x.s, r, s, two)
			}
			wantUntouched(t, room1, room2)
			spoil(r)
			spoil(s)
			if !equal(two, want) {
				t.Errorf("%s: %x became %x", name, want, two)
			}
		}
	}
}

// R2: it is also so of a text that is put into itself, or taken out of itself.
func TestChangeItself(t *testing.T) {
	for _, x := range []struct {
		how  changer
		r    []rune
		at   int
		a, b int
		want []rune
	}{
		{glyph.Insert, text("abcd"), 1, 0, 4, text("aabcdbcd")},
		{glyph.Insert, text("abcd"), 1, 2, 4, text("acdbcd")},
		{glyph.Insert, text("abcd"), 4, 0, 2, text("abcdab")},
		{glyph.Insert, text("abcd"), 0, 1, 3, text("bcabcd")},
		{glyph.Remove, text("abcd"), 0, 0, 4, nil},
		{glyph.Remove, text("abcd"), 1, 1, 3, text("ad")},
		{glyph.Remove, text("abab"), 2, 0, 2, text("ab")},
		{glyph.Remove, text("abab"), 0, 2, 4, text("ab")},
	} {
		r, room := roomy(x.r)
		got, e := x.how(r, x.at, r[x.a:x.b])
		if e != api.OK || !equal(got, x.want) || !equal(r, x.r) {
			t.Errorf("%q, %d, %d to %d: got %q, %d", string(x.r), x.at, x.a, x.b, string(got), e)
		}
		wantUntouched(t, room)
		spoil(got)
		if !equal(r, x.r) {
			t.Errorf("%q became %q", string(x.r), string(r))
		}
	}
}

// R2: of what a cut tells each is a text of its own.
func TestCutNew(t *testing.T) {
	for _, x := range [][]rune{nil, text("a"), text("abc"), long(100)} {
		for at := range len(x) + 1 {
			r, room := roomy(x)
			a, b, _ := glyph.Cut(r, at)
			spoil(a)
			if !equal(b, x[at:]) || !equal(r, x) {
				t.Errorf("%q, %d: the first one is shared", string(x), at)
			}
			a, b, _ = glyph.Cut(r, at)
			spoil(b)
			if !equal(a, x[:at]) || !equal(r, x) {
				t.Errorf("%q, %d: the second one is shared", string(x), at)
			}
			wantUntouched(t, room)
			a, b, _ = glyph.Cut(r, at)
			spoil(r)
			if !equal(a, x[:at]) || !equal(b, x[at:]) {
				t.Errorf("%q, %d: became %q, %q", string(x), at, string(a), string(b))
			}
		}
	}
	for _, x := range []struct {
		r  []rune
		at int
	}{{text("abc"), 4}, {text("abc"), -1}, {runes('a', 0xd800), 1}} {
		r, room := roomy(x.r)
		glyph.Cut(r, x.at)
		if !equal(r, x.r) {
			t.Errorf("%x became %x", x.r, r)
		}
		wantUntouched(t, room)
	}
}
