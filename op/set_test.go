package op_test

import (
	"testing"

	"redline/api"
)

// P12.2: Old are taken out of a node's properties, New are put in; what it has, and all other nodes, stay.
func TestSetNode(t *testing.T) {
	wantAll(t, []done{
		{`["ab"]`, set(nil, props("bold", "1"), 0), `[{bold:1}"ab"]`},
		{`[{bold:1}"ab"]`, set(props("bold", "1"), nil, 0), `["ab"]`},
		{`[{bold:1}"ab"]`, set(props("bold", "1"), props("bold", "2"), 0), `[{bold:2}"ab"]`},
		{`[{bold:1}"ab"]`, set(props("bold", "1"), props("bold", "1"), 0), `[{bold:1}"ab"]`},
		{`[{bold:1}"ab"]`, set(nil, nil, 0), `[{bold:1}"ab"]`},
		{`[{bold:1}"ab"]`, set([]api.Prop{}, []api.Prop{}, 0), `[{bold:1}"ab"]`},
		{`[{b:1,d:2,f:3}"ab"]`, set(props("b", "1", "f", "3"), props("a", "", "c", "4", "f", "5"), 0), `[{a:,c:4,d:2,f:5}"ab"]`},
		{`["x"{type:p}["a"["b"]]"y"]`, set(props("type", "p"), props("type", "q"), 1), `["x"{type:q}["a"["b"]]"y"]`},
		{`["x"{type:p}["a"["b"]]"y"]`, set(nil, props("type", "q"), 1, 1), `["x"{type:p}["a"{type:q}["b"]]"y"]`},
		{`[[[["a"]]]]`, set(nil, props("a", "1"), 0, 0, 0, 0), `[[[[{a:1}"a"]]]]`},
	})
}

// P12.1: not the root; there is to be a node at Path, and what is patched as prop.Patch asks.
func TestSetNodeErrors(t *testing.T) {
	bad, bold := make([]api.Prop, 1), props("bold", "1")
	wantAllWrong(t, []refused{
		{four, set(nil, nil), api.ErrRoot},
		{four, set(nil, bold), api.ErrRoot},
		{four, set(bad, bad), api.ErrRoot},
		{`{a:1}[]`, set(props("a", "1"), nil, path()...), api.ErrRoot},
		{four, set(bad, nil, 0), api.ErrKey},
		{four, set(nil, bad, 0), api.ErrKey},
		{four, set(bold, bad, 0), api.ErrKey},
		{four, set(props("b", "", "a", ""), bad, 0), api.ErrArg},
		{four, set(bad, props("b", "", "a", ""), 0), api.ErrKey},
		{four, set(many(17), bad, 0), api.ErrLong},
		{four, set(bold, many(17), 0), api.ErrLong},
		{four, set(bold, nil, 0), api.ErrSame},
		{four, set(props("bold", "2"), nil, 1), api.ErrSame},
		{four, set(props("a", "", "bold", "1"), nil, 1), api.ErrSame},
		{four, set(nil, bold, 1), api.ErrSame},
		{four, set(nil, props("bold", "2"), 1), api.ErrSame},
		{four, set(nil, many(16), 1), api.ErrLong},
	})
	for _, q := range nowhere() {
		wantWrong(t, tr(four), none(), set(nil, bold, q...), api.ErrPath)
		wantWrong(t, tr(four), none(), set(bad, bad, q...), api.ErrPath)
	}
	wantDone(t, elem(api.Node{Leaf: true, Props: many(16)}), none(), set(many(16), many(15), 0), elem(api.Node{Leaf: true, Props: many(15)}), none())
}

// P12.2: the selection is Into, the tree stays.
func TestSetSel(t *testing.T) {
	all := []api.Sel{none(), no(pt(0, path()...), pt(0)), sel(pt(0, 0), pt(0, 0)), sel(pt(2, 0), pt(2, 1)), sel(pt(2, 1), pt(2, 0)), sel(pt(0, 2, 0), pt(1, 2, 1)), sel(pt(1, 2, 1), pt(1, 0))}
	for _, s := range all {
		for _, into := range all {
			wantDone(t, tr(four), s, choose(s, into), tr(four), into)
		}
	}
	wantDone(t, tr(`[]`), none(), choose(none(), none()), tr(`[]`), none())
}

// P12.1: From is to be the selection, the points and which of them is which.
func TestSetSelFrom(t *testing.T) {
	into := sel(pt(0, 0), pt(0, 0))
	s := sel(pt(1, 0), pt(0, 2, 1))
	for _, from := range []api.Sel{none(), sel(pt(0, 2, 1), pt(1, 0)), sel(pt(2, 0), pt(0, 2, 1)), sel(pt(1, 0), pt(1, 2, 1)), sel(pt(1, 1), pt(0, 2, 1)), sel(pt(1, 0), pt(0, 2)), no(pt(1, 0), pt(0, 2, 1)), {Is: true}} {
		wantWrong(t, tr(four), s, choose(from, into), api.ErrSame)
		wantWrong(t, tr(four), s, choose(from, none()), api.ErrSame)
		wantWrong(t, tr(four), s, choose(from, from), api.ErrSame)
	}
	for _, from := range []api.Sel{s, into, no(pt(1), pt(0)), no(pt(0), pt(0, 0)), {Is: true}, sel(pt(9, 9), pt(9, 9))} {
		wantWrong(t, tr(four), none(), choose(from, into), api.ErrSame)
		wantWrong(t, tr(four), none(), choose(from, sel(pt(9, 9), pt(9, 9))), api.ErrSame)
	}
}

// P12.1: Into is to be a selection of the tree, or none.
func TestSetSelInto(t *testing.T) {
	good := pt(1, 0)
	for e, all := range map[api.Errno][]api.Point{
		api.ErrPath: {pt(0, 4), pt(0, 0, 0), pt(9, -1), pt(0, 2, 2), pt(-1, 2, 0, 0)},
		api.ErrLeaf: {pt(0), pt(0, 2), pt(9, 3), pt(-1)},
		api.ErrPos:  {pt(3, 0), pt(-1, 0), pt(2, 2, 1), pt(-1, 2, 0)},
	} {
		for _, p := range all {
			for _, s := range []api.Sel{none(), sel(good, good)} {
				wantWrong(t, tr(four), s, choose(s, sel(p, good)), e)
				wantWrong(t, tr(four), s, choose(s, sel(good, p)), e)
				wantWrong(t, tr(four), s, choose(s, no(p, pt(1))), api.ErrArg)
				wantWrong(t, tr(four), s, choose(s, no(pt(0, 0), p)), api.ErrArg)
			}
		}
	}
	wantWrong(t, tr(four), none(), choose(none(), sel(pt(0, 2), pt(0, 9))), api.ErrLeaf)
	wantWrong(t, tr(four), none(), choose(none(), sel(pt(0, 9), pt(0, 2))), api.ErrPath)
	for _, i := range odd() {
		wantWrong(t, tr(four), none(), choose(none(), sel(pt(i, 0), good)), api.ErrPos)
		wantWrong(t, tr(four), none(), choose(none(), sel(good, pt(0, i))), api.ErrPath)
	}
}
