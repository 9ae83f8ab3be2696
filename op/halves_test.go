package op_test

import (
	"testing"

	"redline/api"
)

// P12.2: a leaf's text, or an element's Kids, go behind those of the one ahead, which keeps its own properties.
func TestMergeNode(t *testing.T) {
	bold := props("bold", "1")
	wantAll(t, []done{
		{`["ab""c"]`, merge(2, nil, 1), `["abc"]`},
		{`["ab"""]`, merge(2, nil, 1), `["ab"]`},
		{`["""c"]`, merge(0, nil, 1), `["c"]`},
		{`[""""]`, merge(0, []api.Prop{}, 1), `[""]`},
		{`["a""b""c""d"]`, merge(1, nil, 1), `["ab""c""d"]`},
		{`["a""b""c""d"]`, merge(1, nil, 2), `["a""bc""d"]`},
		{`["a""b""c""d"]`, merge(1, nil, 3), `["a""b""cd"]`},
		{`["ab"{bold:1}"c"]`, merge(2, bold, 1), `["abc"]`},
		{`[{bold:1}"ab""c"]`, merge(2, nil, 1), `[{bold:1}"abc"]`},
		{`[{a:1}"ab"{b:2,c:3}"c"]`, merge(2, props("b", "2", "c", "3"), 1), `[{a:1}"abc"]`},
		{`["\e4;\2603;""\10ffff;"]`, merge(2, nil, 1), `["\e4;\2603;\10ffff;"]`},

		{`[["a""b"]["c"]]`, merge(2, nil, 1), `[["a""b""c"]]`},
		{`[[]["c"]]`, merge(0, nil, 1), `[["c"]]`},
		{`[["a"][]]`, merge(1, nil, 1), `[["a"]]`},
		{`[[][]]`, merge(0, nil, 1), `[[]]`},
		{`[{type:p}["a"]{type:q}["b"["c"]]"d"]`, merge(1, props("type", "q"), 1), `[{type:p}["a""b"["c"]]"d"]`},
		{`["x"[{type:p}[["a"]]{type:q}[["b"]]]"y"]`, merge(1, props("type", "q"), 1, 1), `["x"[{type:p}[["a"]["b"]]]"y"]`},
		{`[[[["a""b"]]]]`, merge(1, nil, 0, 0, 0, 1), `[[[["ab"]]]]`},
	})
}

// P12.1: there is to be a node at Path and one ahead of it, of one kind, with Pos the length of that one, and Old the properties of this one.
func TestMergeNodeErrors(t *testing.T) {
	bold := props("bold", "1")
	wantAllWrong(t, []refused{
		{four, merge(0, nil), api.ErrRoot},
		{four, merge(0, nil, path()...), api.ErrRoot},
		// At the first Kid.
		{four, merge(0, nil, 0), api.ErrPos},
		{four, merge(2, bold, 0), api.ErrPos},
		{four, merge(0, nil, 2, 0), api.ErrPos},
		{`[[["a"]]]`, merge(0, nil, 0, 0), api.ErrPos},
		// A leaf and an element beside one another.
		{four, merge(2, props("type", "p"), 2), api.ErrLeaf},
		{`[["a"]"b"]`, merge(1, nil, 1), api.ErrLeaf},
		{`[[]""]`, merge(0, nil, 1), api.ErrLeaf},
		{`[""[]]`, merge(0, nil, 1), api.ErrLeaf},
		{`[""[]]`, merge(7, bold, 1), api.ErrLeaf},
		// Pos is one less, or one more, than the length of the one ahead, or that of the one at Path.
		{four, merge(1, bold, 1), api.ErrPos},
		{four, merge(3, bold, 1), api.ErrPos},
		{`["a""bcd"]`, merge(3, nil, 1), api.ErrPos},
		{`["a""bcd"]`, merge(0, nil, 1), api.ErrPos},
		{`[["a""b"]["c"]]`, merge(1, nil, 1), api.ErrPos},
		{`[["a""b"]["c"]]`, merge(3, nil, 1), api.ErrPos},
		{`[["abc"][]]`, merge(3, nil, 1), api.ErrPos},
		{`[["abc"][]]`, merge(0, nil, 1), api.ErrPos},
		{`["\e4;""b"]`, merge(2, nil, 1), api.ErrPos},
		{`[""""]`, merge(1, nil, 1), api.ErrPos},
		// Old are not its properties, but some of them, more, others, or those of the one ahead.
		{four, merge(2, nil, 1), api.ErrSame},
		{four, merge(2, props("bold", "2"), 1), api.ErrSame},
		{four, merge(2, props("bolt", "1"), 1), api.ErrSame},
		{four, merge(2, props("a", "", "bold", "1"), 1), api.ErrSame},
		{four, merge(2, props("bold", "1", "bold", "1"), 1), api.ErrSame},
		{four, merge(2, props("type", "p"), 3), api.ErrSame},
		{`["a"{a:1,b:2}"b"]`, merge(1, props("a", "1"), 1), api.ErrSame},
		{`["a"{a:1,b:2}"b"]`, merge(1, props("b", "2", "a", "1"), 1), api.ErrSame},
		{`[{a:1}"a""b"]`, merge(1, props("a", "1"), 1), api.ErrSame},
		{`["a""b"]`, merge(1, props("A", "!"), 1), api.ErrSame},
		{`["a""b"]`, merge(1, many(17), 1), api.ErrSame},
	})
	for _, i := range odd() {
		wantAllWrong(t, []refused{{four, merge(i, bold, 1), api.ErrPos}, {four, merge(i, nil, 3), api.ErrPos}})
	}
	for _, q := range nowhere() {
		wantWrong(t, tr(four), none(), merge(2, bold, q...), api.ErrPath)
	}
}

// P12.2: a leaf's text, or an element's Kids, from Pos on go into a node behind it, of its kind, with the properties New; all else stays.
func TestSplitNode(t *testing.T) {
	bold := props("bold", "1")
	wantAll(t, []done{
		{`["abc"]`, split(1, nil, 0), `["a""bc"]`},
		{`["abc"]`, split(0, nil, 0), `["""abc"]`},
		{`["abc"]`, split(2, nil, 0), `["ab""c"]`},
		{`["abc"]`, split(3, nil, 0), `["abc"""]`},
		{`[""]`, split(0, []api.Prop{}, 0), `[""""]`},
		{`["abc"]`, split(1, bold, 0), `["a"{bold:1}"bc"]`},
		{`[{bold:1}"abc"]`, split(1, nil, 0), `[{bold:1}"a""bc"]`},
		{`[{a:1}"abc"]`, split(1, props("b", "2", "c", "3"), 0), `[{a:1}"a"{b:2,c:3}"bc"]`},
		{`["x""ab""y"]`, split(1, nil, 1), `["x""a""b""y"]`},
		{`["\e4;\2603;\10ffff;"]`, split(2, nil, 0), `["\e4;\2603;""\10ffff;"]`},

		{`[["a""b""c"]]`, split(0, nil, 0), `[[]["a""b""c"]]`},
		{`[["a""b""c"]]`, split(1, nil, 0), `[["a"]["b""c"]]`},
		{`[["a""b""c"]]`, split(3, nil, 0), `[["a""b""c"][]]`},
		{`[[]]`, split(0, bold, 0), `[[]{bold:1}[]]`},
		{`["x"{type:p}["a"["b"]]"y"]`, split(1, props("type", "q"), 1), `["x"{type:p}["a"]{type:q}[["b"]]"y"]`},
		{`[[[["a""b"]]]]`, split(1, nil, 0, 0, 0), `[[[["a"]["b"]]]]`},
		{`[[[["a""b"]]]]`, split(0, nil, 0, 0, 0, 1), `[[[["a""""b"]]]]`},
	})
}

// P12.1: New is to be what may be, ahead of all else; there is to be a node at Path, and Pos in it.
func TestSplitNodeErrors(t *testing.T) {
	wantAllWrong(t, []refused{
		{four, split(0, nil), api.ErrRoot},
		{four, split(9, nil, path()...), api.ErrRoot},
		{four, split(3, nil, 0), api.ErrPos},
		{four, split(3, nil, 2), api.ErrPos},
		{four, split(1, nil, 3), api.ErrPos},
		{`["\e4;"]`, split(2, nil, 0), api.ErrPos},
		{`[["abc"]]`, split(2, nil, 0), api.ErrPos},
		{`[""]`, split(1, nil, 0), api.ErrPos},
	})
	for _, i := range odd() {
		wantAllWrong(t, []refused{{four, split(i, nil, 0), api.ErrPos}, {four, split(i, nil, 2), api.ErrPos}, {four, split(i, nil, 3), api.ErrPos}})
	}
	for _, q := range nowhere() {
		wantWrong(t, tr(four), none(), split(0, props("a", ""), q...), api.ErrPath)
		wantWrong(t, tr(four), none(), split(99, nil, q...), api.ErrPath)
	}
	for e, all := range map[api.Errno][][]api.Prop{
		api.ErrKey:  {{{}}, props("A", ""), props("a", "A"), props("a", "", "", "")},
		api.ErrArg:  {props("b", "", "a", ""), props("a", "1", "a", "1")},
		api.ErrLong: {many(17)},
	} {
		for _, l := range all {
			for _, q := range [][]int{nil, path(0), path(2), path(9), path(-1)} {
				for _, pos := range []int{-1, 0, 1, 9} {
					wantWrong(t, tr(four), none(), split(pos, l, q...), e)
				}
			}
		}
	}
	wantDone(t, elem(leaf("a")), none(), split(1, many(16), 0), elem(leaf("a"), api.Node{Leaf: true, Props: many(16)}), none())
}
