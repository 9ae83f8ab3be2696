package glyph_test

import (
	"regexp"
	"strconv"
	"strings"
	"testing"

	"redline/api"
	"redline/glyph"
)

// P3.4: what Quote writes is read.
func TestUnquote(t *testing.T) {
	for _, x := range []struct {
		s    string
		want []rune
	}{
		{`""`, nil},
		{`"a\a;\22;"`, text("a\n\"")},
		{`"abc"`, text("abc")},
		{`" ~"`, text(" ~")},
		{`";"`, text(";")},
		{`"a;"`, text("a;")},
		{`"0a"`, text("0a")},
		{`"\0;"`, runes(0)},
		{`"\0;0"`, runes(0, '0')},
		{`"\0;\0;"`, runes(0, 0)},
		{`"\1f; "`, runes(31, 32)},
		{`"\22;"`, text(`"`)},
		{`"\5c;"`, text(`\`)},
		{`"\5c;5c;"`, text(`\5c;`)},
		{`"\7f;"`, runes(127)},
		{`"\80;"`, runes(128)},
		{`"\a;"`, runes(10)},
		{`"\f;"`, runes(15)},
		{`"\10;"`, runes(16)},
		{`"\9;;"`, text("\t;")},
		{`"\d7ff;\e000;"`, runes(0xd7ff, 0xe000)},
		{`"\10000;"`, runes(0x10000)},
		{`"\abcde;"`, runes(0xabcde)},
		{`"\100061;"`, runes(0x100061)},
		{`"\10ffff;"`, runes(0x10ffff)},
		{`"\65e5;\672c; \e9;\9;"`, text("日本 é\t")},
	} {
		r, at, e := glyph.Unquote(x.s)
		if !equal(r, x.want) || at != 0 || e != api.OK {
			t.Errorf("%s: got %x, %d, %d, want %x", x.s, r, at, e, x.want)
		}
	}
}

// wantForm looks that a string is refused at a place, and nothing else told.
func wantForm(t *testing.T, s string, at int) {
	t.Helper()
	r, got, e := glyph.Unquote(s)
	if len(r) != 0 || got != at || e != api.ErrForm {
		t.Errorf("%.40q: got %x, %d, %d, want %d", s, r, got, e, at)
	}
}

// P3.4: the place of the first byte that can not stand there.
func TestUnquoteRefused(t *testing.T) {
	for _, x := range []struct {
		s  string
		at int
	}{
		// no `"` first
		{``, 0},
		{`a`, 0},
		{`a"`, 0},
		{`\`, 0},
		{`\22;`, 0},
		{` ""`, 0},
		{`'a'`, 0},
		{"\n\"\"", 0},
		{"\ufeff\"\"", 0},
		// the end too early
		{`"`, 1},
		{`"a`, 2},
		{`"ab`, 3},
		{`"\a;`, 4},
		{`"\10ffff;`, 9},
		{`"a\22;`, 6},
		// the end within a rune
		{`"\`, 1},
		{`"\a`, 1},
		{`"\0`, 1},
		{`"\10ffff`, 1},
		{`"\10fff`, 1},
		{`"ab\`, 3},
		{`"ab\2`, 3},
		{`"\a;\a`, 4},
		{`"\5c;\`, 5},
		// a `\` that begins no rune
		{`"\"`, 1},
		{`"\\"`, 1},
		{`"\;"`, 1},
		{`"\n"`, 1},
		{`"\x0a;"`, 1},
		{`"\u000a;"`, 1},
		{`"\a"`, 1},
		{`"\a "`, 1},
		{`"\a ;"`, 1},
		{`"\ a;"`, 1},
		{`"\-1;"`, 1},
		{`"\+a;"`, 1},
		{`"\0xa;"`, 1},
		{`"\a_a;"`, 1},
		{`"\g;"`, 1},
		{`"\ag;"`, 1},
		{`"\a\a;"`, 1},
		{`"\a:"`, 1},
		{`"a\;"`, 2},
		{`"ab\z"`, 3},
		{`"\a;\;"`, 4},
		{`"\a;\"`, 4},
		{`"日"`, 1},
		// noughts ahead
		{`"\00;"`, 1},
		{`"\000000;"`, 1},
		{`"\0000000;"`, 1},
		{`"\0a;"`, 1},
		{`"\00a;"`, 1},
		{`"\022;"`, 1},
		{`"\0e9;"`, 1},
		{`"\010ffff;"`, 1},
		{`"\00000a;"`, 1},
		{`"\000000a;"`, 1},
		{`"ab\05c;"`, 3},
		// great letters
		{`"\A;"`, 1},
		{`"\5C;"`, 1},
		{`"\E9;"`, 1},
		{`"\e9;\fF;"`, 5},
		{`"\10FFFF;"`, 1},
		{`"\10ffFf;"`, 1},
		// plain ones
		{`"\20;"`, 1},
		{`"\21;"`, 1},
		{`"\23;"`, 1},
		{`"\30;"`, 1},
		{`"\5b;"`, 1},
		{`"\5d;"`, 1},
		{`"\61;"`, 1},
		{`"\7e;"`, 1},
		{`"\22;\61;"`, 5},
		// no runes
		{`"\d800;"`, 1},
		{`"\dbff;"`, 1},
		{`"\dc00;"`, 1},
		{`"\dfff;"`, 1},
		{`"\110000;"`, 1},
		{`"\ffffff;"`, 1},
		{`"\1000000;"`, 1},
		{`"\10ffff0;"`, 1},
		{`"\10000e9;"`, 1},
		{`"\fffffff;"`, 1},
		{`"\7fffffff;"`, 1},
		{`"\80000000;"`, 1},
		{`"\ffffffff;"`, 1},
		{`"\1000000e9;"`, 1},
		{`"\10000000000000000;"`, 1},
		{`"\100000000000000e9;"`, 1},
		{`"\d7ff;\d800;"`, 7},
		// behind the last `"`
		{`"""`, 2},
		{`""a`, 2},
		{`"" `, 2},
		{"\"\"\n", 2},
		{`""\`, 2},
		{`""\a;`, 2},
		{`"a"b`, 3},
		{`"a"b"`, 3},
		{`"a""`, 3},
		{`"a"""`, 3},
		{`"\a;"\`, 5},
		{`"a";`, 3},
		// the first one of several
		{`a\A;`, 0},
		{`"a` + "\n" + `\A;`, 2},
		{`"\A;` + "\n" + `"b`, 1},
		{`"\61;`, 1},
		{`"a"` + "\n", 3},
	} {
		wantForm(t, x.s, x.at)
	}
}

// P3.4: of every byte, where a plain rune may stand, where a digit, where the `;`, ahead of all, and behind all.
func TestUnquoteBytes(t *testing.T) {
	for n := range 256 {
		c := string([]byte{byte(n)})
		switch {
		case strings.Contains(plain, c):
			r, at, e := glyph.Unquote(`"a` + c + `b"`)
			if !equal(r, runes('a', rune(n), 'b')) || at != 0 || e != api.OK {
				t.Errorf("%q: got %x, %d, %d", c, r, at, e)
			}
		case c == `"`:
			wantForm(t, `"a`+c+`b"`, 3)
		default:
			wantForm(t, `"a`+c+`b"`, 2)
		}
		if c != `"` {
			wantForm(t, c+`ab"`, 0)
		}
		if c != ";" {
			wantForm(t, `"ab\e9`+c+`"`, 3)
		}
		if v := strings.Index("0123456789abcdef", c); v >= 0 {
			r, at, e := glyph.Unquote(`"ab\a` + c + `0;"`)
			if !equal(r, runes('a', 'b', 0xa00+16*rune(v))) || at != 0 || e != api.OK {
				t.Errorf("%q: got %x, %d, %d", c, r, at, e)
			}
		} else if c != ";" {
			wantForm(t, `"ab\a`+c+`0;"`, 3)
		}
		if !strings.Contains("123456789abcdef", c) {
			wantForm(t, `"ab\`+c+`80;"`, 3)
		}
		wantForm(t, `"ab"`+c, 4)
		wantForm(t, `"ab"`+c+`"`, 4)
	}
}

// P3.4: of every number, with `\` as Quote would write it, were it to be written so.
func TestUnquoteNumbers(t *testing.T) {
	for n := range int64(0x120000) {
		s := `"a\` + strconv.FormatInt(n, 16) + `;"`
		c := rune(n)
		if c >= 0xd800 && c < 0xe000 || c > 0x10ffff || strings.ContainsRune(plain, c) {
			wantForm(t, s, 2)
			continue
		}
		if r, at, e := glyph.Unquote(s); !equal(r, runes('a', c)) || at != 0 || e != api.OK {
			t.Fatalf("%s: got %x, %d, %d", s, r, at, e)
		}
	}
}

// P3.4: also of very long strings.
func TestUnquoteLong(t *testing.T) {
	many := 1 << 18
	a := strings.Repeat("a", many)
	for _, x := range []struct {
		s    string
		want []rune
	}{
		{`"` + a + `"`, []rune(a)},
		{`"` + strings.Repeat(`\0;`, many) + `"`, make([]rune, many)},
	} {
		r, at, e := glyph.Unquote(x.s)
		if !equal(r, x.want) || at != 0 || e != api.OK {
			t.Errorf("%.20s: got %d, %d, %d", x.s, len(r), at, e)
		}
	}
	wantForm(t, `"`+a, many+1)
	wantForm(t, `"`+a+`"x`, many+2)
	wantForm(t, `"`+a+"\n"+`"`, many+1)
	wantForm(t, `"`+a+`\`, many+1)
	wantForm(t, `"\`+a+`;"`, 1)
	wantForm(t, `"\`+strings.Repeat("0", many)+`;"`, 1)
	wantForm(t, `"\`+strings.Repeat("0", many)+`a;"`, 1)
	wantForm(t, `"\`+strings.Repeat("1", many), 1)
	wantForm(t, `"`+strings.Repeat(`\0;`, many), 3*many+1)
}

// written is one rune, as Quote may have written it; which numbers may stand there is seen in unquoted.
var written = regexp.MustCompile(`^(?:[ !#-\[\]-~]|\\(?:0|[1-9a-f][0-9a-f]*);)`)

// unquoted is what the chapter's words say, piece by piece.
func unquoted(s string) ([]rune, int, bool) {
	if !strings.HasPrefix(s, `"`) {
		return nil, 0, false
	}
	var out []rune
	for at := 1; ; {
		m := written.FindString(s[at:])
		if m == "" && s[at:] == `"` {
			return out, 0, true
		}
		if m == "" && strings.HasPrefix(s[at:], `"`) {
			return nil, at + 1, false
		}
		c, is := one(m)
		if !is {
			return nil, at, false
		}
		out = append(out, c)
		at += len(m)
	}
}

// one is the rune that stands written so.
func one(m string) (rune, bool) {
	if m == "" {
		return 0, false
	}
	if m[0] != '\\' {
		return rune(m[0]), true
	}
	n, err := strconv.ParseUint(m[1:len(m)-1], 16, 64)
	c := rune(n)
	return c, err == nil && n <= 0x10ffff && (c < 0xd800 || c > 0xdfff) && !strings.ContainsRune(plain, c)
}

// P3.4: of all small strings of bytes that matter.
func TestUnquoteAll(t *testing.T) {
	bytes := "\"\\0218;aA\n"
	all := []string{""}
	for first, size := 0, 1; size <= 5; size++ {
		end := len(all)
		for _, s := range all[first:end] {
			for i := range bytes {
				all = append(all, s+bytes[i:i+1])
			}
		}
		first = end
	}
	for _, s := range all {
		for _, x := range []string{s, `"` + s, `"` + s + `"`, `"\` + s + `;"`} {
			want, place, is := unquoted(x)
			r, at, e := glyph.Unquote(x)
			if !equal(r, want) || at != place || (e == api.OK) != is || !is && e != api.ErrForm {
				t.Fatalf("%q: got %x, %d, %d, want %x, %d", x, r, at, e, want, place)
			}
		}
	}
}

// R2: what is told shares nothing with what is told another time.
func TestUnquoteNew(t *testing.T) {
	s := `"ab\22;\10ffff;"`
	want := text("ab\"\U0010ffff")
	one, _, _ := glyph.Unquote(s)
	two, _, _ := glyph.Unquote(s)
	spoil(one)
	three, _, _ := glyph.Unquote(s)
	if !equal(two, want) || !equal(three, want) {
		t.Errorf("got %x, %x", two, three)
	}
}
