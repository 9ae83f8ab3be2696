package glyph_test

import (
	"fmt"
	"strings"
	"testing"

	"redline/api"
	"redline/glyph"
)

// P3.3: plain runes as they are, others by their numbers.
func TestQuote(t *testing.T) {
	for _, x := range []struct {
		r    []rune
		want string
	}{
		{nil, `""`},
		{runes(), `""`},
		{text("a\n\""), `"a\a;\22;"`},
		{text("abc"), `"abc"`},
		{text(" ~"), `" ~"`},
		{text(`\`), `"\5c;"`},
		{text(`"`), `"\22;"`},
		{text(`""`), `"\22;\22;"`},
		{text(`\\`), `"\5c;\5c;"`},
		{text(`\61;`), `"\5c;61;"`},
		{text("!#[]^`{|}"), "\"!#[]^`{|}\""},
		{text("a;b"), `"a;b"`},
		{text("'"), `"'"`},
		{runes(0), `"\0;"`},
		{runes(0, 0), `"\0;\0;"`},
		{runes(0, '0'), `"\0;0"`},
		{runes(1), `"\1;"`},
		{runes(15), `"\f;"`},
		{runes(16), `"\10;"`},
		{runes(31), `"\1f;"`},
		{runes(32), `" "`},
		{runes(33), `"!"`},
		{runes(35), `"#"`},
		{runes(91), `"["`},
		{runes(93), `"]"`},
		{runes(125), `"}"`},
		{runes(126), `"~"`},
		{runes(127), `"\7f;"`},
		{runes(128), `"\80;"`},
		{runes(0xa0), `"\a0;"`},
		{runes(0xe9), `"\e9;"`},
		{runes(0xff), `"\ff;"`},
		{runes(0x100), `"\100;"`},
		{runes(0xabc), `"\abc;"`},
		{runes(0xabcde), `"\abcde;"`},
		{runes(0xd7ff), `"\d7ff;"`},
		{runes(0xe000), `"\e000;"`},
		{runes(0xfffd), `"\fffd;"`},
		{runes(0xffff), `"\ffff;"`},
		{runes(0x10000), `"\10000;"`},
		{runes(0x100061), `"\100061;"`},
		{runes(0x10ffff), `"\10ffff;"`},
		{text("日本 é\t"), `"\65e5;\672c; \e9;\9;"`},
	} {
		if got, e := glyph.Quote(x.r); got != x.want || e != api.OK {
			t.Errorf("%x: got %s, %d, want %s", x.r, got, e, x.want)
		}
	}
}

// P3.3: what has no text is refused, wherever it stands.
func TestQuoteRefused(t *testing.T) {
	for _, c := range bad() {
		for _, r := range [][]rune{{c}, {c, 'a'}, {'a', c}, {'a', c, 'b'}, {0, c}, {c, c}, with(long(1000), 999, c)} {
			if got, e := glyph.Quote(r); got != "" || e != api.ErrRune {
				t.Errorf("%.20x: got %.20s, %d", r, got, e)
			}
		}
	}
}

// quoted is what the chapter's words say of one rune.
func quoted(c rune) string {
	if strings.ContainsRune(plain, c) {
		return string(c)
	}
	return fmt.Sprintf(`\%x;`, c)
}

// plain are all plain runes.
const plain = " !#$%&'()*+,-./0123456789:;<=>?@ABCDEFGHIJKLMNOPQRSTUVWXYZ[]^_`abcdefghijklmnopqrstuvwxyz{|}~"

// P3.3: of every rune, alone, and of all of them in one text.
func TestQuoteAll(t *testing.T) {
	var all []rune
	var want strings.Builder
	want.WriteByte('"')
	for c := rune(0); c <= 0x10ffff; c++ {
		if c == 0xd800 {
			c = 0xe000
		}
		s := quoted(c)
		if got, e := glyph.Quote(runes(c)); got != `"`+s+`"` || e != api.OK {
			t.Fatalf("%x: got %s, %d", c, got, e)
		}
		all = append(all, c)
		want.WriteString(s)
	}
	want.WriteByte('"')
	if got, e := glyph.Quote(all); got != want.String() || e != api.OK {
		t.Errorf("of all of them something else is told, %d", e)
	}
}

// R2: an argument is not changed, nor what lies behind its end; what is told stays.
func TestQuoteNew(t *testing.T) {
	for _, x := range [][]rune{nil, text("abc"), good(), {'a', 0xd800}} {
		r, room := roomy(x)
		one, e := glyph.Quote(r)
		want := strings.Clone(one)
		two, f := glyph.Quote(r)
		if !equal(r, x) || one != two || e != f {
			t.Errorf("%x: became %x, or is told otherwise: %s, %s", x, r, one, two)
		}
		wantUntouched(t, room)
		spoil(r)
		if one != want || two != want {
			t.Errorf("%x: %s became %s", x, want, one)
		}
	}
}
