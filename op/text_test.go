package op_test

import (
	"testing"

	"redline/api"
)

// P12.2: runes are put in ahead, between, and behind those of a leaf; its properties stay.
func TestInsertText(t *testing.T) {
	wantAll(t, []done{
		{`["ab"]`, put(0, "xy", 0), `["xyab"]`},
		{`["ab"]`, put(1, "xy", 0), `["axyb"]`},
		{`["ab"]`, put(2, "xy", 0), `["abxy"]`},
		{`["ab"]`, put(1, "", 0), `["ab"]`},
		{`[""]`, put(0, "x", 0), `["x"]`},
		{`[""]`, put(0, "", 0), `[""]`},
		{`["\e4;b"]`, put(1, "\u2603\U0010ffff", 0), `["\e4;\2603;\10ffff;b"]`},
		{four, put(1, "x", 1), `["ab"{bold:1}"cxd"{type:p}["e""f"][]]`},
		{four, put(1, "x", 2, 1), `["ab"{bold:1}"cd"{type:p}["e""fx"][]]`},
		{`[[[["a"]]]]`, put(0, "x", 0, 0, 0, 0), `[[[["xa"]]]]`},
	})
	all := []rune{0, 0xd7ff, 0xe000, 0x10ffff}
	wantDone(t, tr(`["ab"]`), none(), api.Op{Kind: api.InsertText, Path: path(0), Pos: 1, Text: all}, elem(leaf("a\x00\ud7ff\ue000\U0010ffffb")), none())
}

// P12.2: runes that stand there are taken out, ahead, between, behind, and all of them.
func TestRemoveText(t *testing.T) {
	wantAll(t, []done{
		{`["abcd"]`, take(0, "ab", 0), `["cd"]`},
		{`["abcd"]`, take(1, "bc", 0), `["ad"]`},
		{`["abcd"]`, take(2, "cd", 0), `["ab"]`},
		{`["abcd"]`, take(0, "abcd", 0), `[""]`},
		{`["abcd"]`, take(2, "", 0), `["abcd"]`},
		{`["abcd"]`, take(4, "", 0), `["abcd"]`},
		{`[""]`, take(0, "", 0), `[""]`},
		{`["abab"]`, take(2, "ab", 0), `["ab"]`},
		{`["\e4;\2603;b"]`, take(1, "\u2603", 0), `["\e4;b"]`},
		{four, take(1, "d", 1), `["ab"{bold:1}"c"{type:p}["e""f"][]]`},
		{four, take(0, "f", 2, 1), `["ab"{bold:1}"cd"{type:p}["e"""][]]`},
		{`[[[["a"]]]]`, take(0, "a", 0, 0, 0, 0), `[[[[""]]]]`},
	})
}

// P12.1: there is to be a leaf at Path, the runes are to be some, and the place one in it; an element, the root among them, has no text.
func TestTextErrors(t *testing.T) {
	for _, o := range []api.Op{put(0, "a"), take(0, "a"), put(0, ""), take(0, ""), put(99, ""), take(99, "x")} {
		at := func(q ...int) api.Op {
			o.Path = q
			return o
		}
		wantAllWrong(t, []refused{
			{four, at(), api.ErrLeaf},
			{four, at(path()...), api.ErrLeaf},
			{four, at(2), api.ErrLeaf},
			{four, at(3), api.ErrLeaf},
			{`[]`, at(), api.ErrLeaf},
			{`[[[[]]]]`, at(0, 0, 0), api.ErrLeaf},
		})
		for _, q := range nowhere() {
			wantWrong(t, tr(four), none(), at(q...), api.ErrPath)
		}
	}
	for _, kind := range []int{api.InsertText, api.RemoveText} {
		for _, text := range [][]rune{{-1}, {'a', 0xd800}, {0xdfff, 'a'}, {0x110000}, {1<<31 - 1}, {-1 << 31}} {
			for _, pos := range []int{0, 1, 2, 3, -1} {
				wantWrong(t, tr(four), none(), api.Op{Kind: kind, Path: path(0), Pos: pos, Text: text}, api.ErrRune)
				wantWrong(t, tr(four), none(), api.Op{Kind: kind, Path: path(2), Pos: pos, Text: text}, api.ErrLeaf)
				wantWrong(t, tr(four), none(), api.Op{Kind: kind, Path: path(9), Pos: pos, Text: text}, api.ErrPath)
			}
		}
		for _, pos := range append(odd(), 3, 4) {
			for _, text := range []string{"", "a", "ab"} {
				wantWrong(t, tr(four), none(), api.Op{Kind: kind, Path: path(0), Pos: pos, Text: []rune(text)}, api.ErrPos)
			}
		}
		wantWrong(t, tr(`["\e4;"]`), none(), api.Op{Kind: kind, Path: path(0), Pos: 2}, api.ErrPos)
	}
}

// P12.1: what does not stand there is not taken out.
func TestRemoveTextSame(t *testing.T) {
	wantAllWrong(t, []refused{
		{`["abc"]`, take(0, "b", 0), api.ErrSame},
		{`["abc"]`, take(0, "ac", 0), api.ErrSame},
		{`["abc"]`, take(1, "ab", 0), api.ErrSame},
		{`["abc"]`, take(2, "cd", 0), api.ErrSame},
		{`["abc"]`, take(3, "c", 0), api.ErrSame},
		{`["abc"]`, take(0, "abcd", 0), api.ErrSame},
		{`[""]`, take(0, "a", 0), api.ErrSame},
		{`["abc""d"]`, take(2, "cd", 0), api.ErrSame},
		{`["a"{b:c}"b"]`, take(0, "a", 1), api.ErrSame},
	})
}
