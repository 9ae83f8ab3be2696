package glyph_test

import (
	"slices"
	"testing"

	"redline/api"
)

// runes makes a text of runes' numbers, whether they are runes or not.
func runes(l ...rune) []rune { return l }

// text makes a text of a string that is one.
func text(s string) []rune { return []rune(s) }

// equal stands here so that the other calls' tests do not hang on Same.
func equal(a, b []rune) bool {
	if len(a) != len(b) {
		return false
	}
	for i := range a {
		if a[i] != b[i] {
			return false
		}
	}
	return true
}

// good are the runes at the ends of what runes, and plain runes, are, and a few beside.
func good() []rune {
	return runes(0, 1, 9, 10, 15, 16, 31, 32, 33, '!', '#', '0', '9', ';', 'A', 'F', '[', ']', 'a', 'f', 'z', '"', '\\', 125, 126, 127, 128, 0xe9, 0xff, 0x100, 0xfff, 0x1000, 0xd7fe, 0xd7ff, 0xe000, 0xe001, 0xfffd, 0xfffe, 0xffff, 0x10000, 0xfffff, 0x100000, 0x10fffe, 0x10ffff)
}

// bad are numbers that are no runes.
func bad() []rune {
	return runes(-1, -2, -97, -0xd800, -1<<31, 0xd800, 0xd801, 0xdbff, 0xdc00, 0xdffe, 0xdfff, 0x110000, 0x110001, 0x110061, 0x200000, 0xffffff, 0x1000061, 1<<31-1)
}

// small tells all texts of at most so many runes, each among those.
func small(most int, among []rune) [][]rune {
	out := [][]rune{nil}
	for first, size := 0, 1; size <= most; size++ {
		end := len(out)
		for _, r := range out[first:end] {
			for _, c := range among {
				out = append(out, slices.Concat(r, runes(c)))
			}
		}
		first = end
	}
	return out
}

// long makes a text of many runes.
func long(many int) []rune {
	r := make([]rune, many)
	for i := range r {
		r[i] = 'a' + rune(i%7)
	}
	return r
}

// with is r, with a rune in the place of one that it has.
func with(r []rune, at int, c rune) []rune {
	out := slices.Clone(r)
	out[at] = c
	return out
}

// filler is what stands in the room behind an argument.
const filler = 0x2603

// roomy is a copy of r with room behind it, and what stands in that room, to see whether anybody writes there.
func roomy(r []rune) (list, room []rune) {
	all := make([]rune, len(r)+8)
	copy(all, r)
	for i := len(r); i < len(all); i++ {
		all[i] = filler
	}
	return all[:len(r)], all[len(r):]
}

func wantUntouched(t *testing.T, rooms ...[]rune) {
	t.Helper()
	for _, room := range rooms {
		for _, c := range room {
			if c != filler {
				t.Errorf("written behind an argument's end: %x", room)
			}
		}
	}
}

// spoil writes all over a text, also behind its end, as far as it has room.
func spoil(r []rune) {
	r = r[:cap(r)]
	for i := range r {
		r[i] = '!'
	}
}

// changer is Insert or Remove.
type changer func([]rune, int, []rune) ([]rune, api.Errno)

type change struct {
	r    []rune
	at   int
	s    []rune
	want []rune
	e    api.Errno
}

// wantChanged holds what a call tells against what it should, and looks that with an error nothing else is told.
func wantChanged(t *testing.T, how changer, all []change) {
	t.Helper()
	for _, x := range all {
		got, e := how(x.r, x.at, x.s)
		if e != x.e || !equal(got, x.want) {
			t.Errorf("%.20x, %d, %.20x: got %.20x, %d, want %.20x, %d", x.r, x.at, x.s, got, e, x.want, x.e)
		}
	}
}
