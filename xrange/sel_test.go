package xrange_test

import (
	"testing"

	"redline/api"
	"redline/xrange"
)

// selOne is one case: a tree behind an operation, a selection ahead of it, and where that goes.
type selOne struct {
	n    api.Node
	s    api.Sel
	o    api.Op
	want api.Sel
}

// wantSels holds what Sel tells against what it should; a selection turned round is to go to the one turned round.
func wantSels(t *testing.T, all []selOne) {
	t.Helper()
	for _, x := range all {
		wantSel(t, x.n, x.s, x.o, x.want)
		x.s.Range, x.want.Range = turned(x.s.Range), turned(x.want.Range)
		wantSel(t, x.n, x.s, x.o, x.want)
	}
}

// P10.2: a selection goes along with each kind of operation.
func TestSelGoes(t *testing.T) {
	n := elem(leaf("abc"), leaf("defg"), elem(leaf("hi")))
	s := sel(pt(1, 0), pt(2, 1))
	wantSels(t, []selOne{
		{n, s, put(0, 1, 0), sel(pt(2, 0), pt(2, 1))},
		{n, s, take(0, 1, 1), sel(pt(1, 0), pt(1, 1))},
		{n, s, take(0, 3, 1), sel(pt(1, 0), pt(0, 1))},
		{n, s, insert(0), sel(pt(1, 1), pt(2, 2))},
		{n, s, insert(1), sel(pt(1, 0), pt(2, 2))},
		{n, s, insert(2), s},
		{n, s, remove(2), s},
		{n, s, merge(3, 1), sel(pt(1, 0), pt(5, 0))},
		{n, s, split(2, 0), sel(pt(1, 0), pt(2, 2))},
		{n, s, split(1, 1), sel(pt(1, 0), pt(1, 2))},
		{n, s, move(path(0), path(1)), sel(pt(1, 1), pt(2, 0))},
		{n, s, move(path(1), path(1, 0)), sel(pt(1, 0), pt(2, 1, 0))},
		{n, s, set(1), s},
		{n, s, api.Op{Kind: api.SetSel, From: s, Into: sel(pt(0, 1), pt(1, 2, 0))}, s},
		{leaf("abc"), sel(pt(1), pt(2)), put(2, 1), sel(pt(1), pt(3))},
	})
}

// P10.2: what comes just where a point of a selection stands takes that along, the start and the end alike.
func TestSelForward(t *testing.T) {
	n := elem(leaf("abcd"), leaf("efgh"))
	s := sel(pt(1, 0), pt(2, 1))
	wantSels(t, []selOne{
		{n, s, put(1, 2, 0), sel(pt(3, 0), pt(2, 1))},
		{n, s, put(2, 2, 1), sel(pt(1, 0), pt(4, 1))},
		{n, sel(pt(1, 0), pt(3, 0)), put(3, 2, 0), sel(pt(1, 0), pt(5, 0))},
		{n, sel(pt(1, 0), pt(1, 0)), put(1, 2, 0), sel(pt(3, 0), pt(3, 0))},
		// A leaf that is split just there.
		{n, s, split(1, 0), sel(pt(0, 1), pt(2, 2))},
		{n, s, split(2, 1), sel(pt(1, 0), pt(0, 2))},
		{n, sel(pt(1, 0), pt(1, 0)), split(1, 0), sel(pt(0, 1), pt(0, 1))},
		{n, sel(pt(0, 0), pt(4, 0)), split(4, 0), sel(pt(0, 0), pt(0, 1))},
		{n, sel(pt(0, 0), pt(4, 0)), split(0, 0), sel(pt(0, 1), pt(4, 1))},
		// Leaves that are merged just there.
		{n, sel(pt(4, 0), pt(0, 1)), merge(4, 1), sel(pt(4, 0), pt(4, 0))},
		{n, sel(pt(0, 1), pt(0, 1)), merge(0, 1), sel(pt(0, 0), pt(0, 0))},
	})
}

// P10.2: a point that is taken out goes to the one ahead of where the operation was, behind the text there; the other one goes along.
func TestSelAhead(t *testing.T) {
	wantSels(t, []selOne{
		// Both, and each of them.
		{elem(leaf("ab"), leaf("c")), sel(pt(0, 1), pt(1, 1)), remove(1), sel(pt(2, 0), pt(2, 0))},
		{elem(leaf("ab"), leaf("c")), sel(pt(1, 0), pt(1, 1)), remove(1), sel(pt(1, 0), pt(2, 0))},
		{elem(leaf("ab"), leaf("c")), sel(pt(1, 1), pt(0, 2)), remove(1), sel(pt(2, 0), pt(0, 1))},
		{elem(leaf("ab"), leaf("c")), sel(pt(0, 1, 0), pt(1, 1, 7)), remove(1), sel(pt(2, 0), pt(2, 0))},
		// The last one ahead, however deep it stands, and without a text.
		{elem(leaf("ab"), elem(leaf("c"), elem(leaf("def"), elem())), leaf("g")), sel(pt(0, 2), pt(0, 2)), remove(2), sel(pt(3, 1, 1, 0), pt(3, 1, 1, 0))},
		{elem(leaf("ab"), leaf(""), elem(), leaf("g")), sel(pt(0, 3), pt(0, 4)), remove(3), sel(pt(0, 1), pt(0, 3))},
		{elem(leaf("ab"), elem(leaf("g"))), sel(pt(0, 1, 0), pt(1, 1, 1)), remove(1, 0), sel(pt(2, 0), pt(1, 1, 0))},
		// It was the last Kid.
		{elem(leaf("ab"), elem(leaf("c"))), sel(pt(0, 1, 1), pt(0, 0)), remove(1, 1), sel(pt(1, 1, 0), pt(0, 0))},
		{elem(leaf("ab"), elem()), sel(pt(0, 1, 0), pt(0, 0)), remove(1, 0), sel(pt(2, 0), pt(0, 0))},
	})
}

// P10.2: with none ahead, a point that is taken out goes to the one behind, ahead of the text there.
func TestSelBehind(t *testing.T) {
	wantSels(t, []selOne{
		{elem(leaf("c")), sel(pt(1, 0), pt(1, 0)), remove(0), sel(pt(0, 0), pt(0, 0))},
		{elem(leaf("c")), sel(pt(1, 0), pt(1, 1)), remove(0), sel(pt(0, 0), pt(1, 0))},
		{elem(elem(), elem(elem(), leaf("c")), leaf("d")), sel(pt(1, 1, 1), pt(1, 2)), remove(1, 1), sel(pt(0, 1, 1), pt(1, 2))},
		{elem(elem(), elem(elem(leaf("c")))), sel(pt(0, 0, 0), pt(1, 0, 0)), remove(0, 0), sel(pt(0, 1, 0, 0), pt(0, 1, 0, 0))},
		{elem(elem(elem()), leaf("c")), sel(pt(0, 0, 0, 0), pt(1, 1)), remove(0, 0, 0), sel(pt(0, 1), pt(1, 1))},
	})
}

// P10.2: with neither, and be it of one point alone, the selection is none.
func TestSelNowhere(t *testing.T) {
	for _, n := range []api.Node{{}, elem(), elem(elem(), elem(elem()))} {
		wantSels(t, []selOne{
			{n, sel(pt(1, 0), pt(0, 0)), remove(0), api.Sel{}},
			{n, sel(pt(1, 0), pt(0, 1)), remove(0), api.Sel{}},
			{n, sel(pt(1, 1, 0), pt(0, 1, 1)), remove(1, 1), api.Sel{}},
			{n, sel(pt(1, 1, 0), pt(0, 1, 1)), remove(1), api.Sel{}},
		})
	}
}

// P10.2: of points that go somewhere the tree is not asked, leaves or none.
func TestSelWithoutLeaves(t *testing.T) {
	for _, n := range []api.Node{{}, elem(), elem(elem(), elem(elem()))} {
		wantSels(t, []selOne{
			{n, sel(pt(1, 0), pt(2, 1)), insert(0), sel(pt(1, 1), pt(2, 2))},
			{n, sel(pt(1, 7), pt(2, 9)), put(0, 4, 9), sel(pt(1, 7), pt(6, 9))},
			{n, sel(pt(1, 7), pt(2, 9)), remove(0), sel(pt(1, 6), pt(2, 8))},
		})
	}
}

// P10.2: a selection that is none stays none, and is zero, also if it had points.
func TestSelNone(t *testing.T) {
	for _, n := range []api.Node{{}, leaf("ab"), elem(leaf("ab"), leaf("c"))} {
		for _, kind := range append(nine(), strange()...) {
			for _, q := range places(2, 1) {
				o := api.Op{Kind: kind, Path: q, To: path(1), Pos: 1, Text: []rune("ab"), Into: sel(pt(1, 0), pt(0, 1))}
				for _, r := range []api.Range{{}, in1(0, 1), rg(pt(1, 0), pt(-3, -2))} {
					wantSel(t, n, api.Sel{Range: r}, o, api.Sel{})
				}
			}
		}
	}
}

// P10.2: where a MergeNode is at a first Kid nothing is told of any point, so both go to the one ahead, or behind.
func TestSelMergeFirst(t *testing.T) {
	wantSels(t, []selOne{
		{elem(leaf("ab"), leaf("c")), sel(pt(1, 0), pt(1, 1)), merge(2, 0), sel(pt(0, 0), pt(0, 0))},
		{elem(leaf("ab"), elem(leaf("c"))), sel(pt(1, 0), pt(1, 1, 0)), merge(2, 1, 0), sel(pt(2, 0), pt(2, 0))},
	})
}

// P10.2: trees that may not be are asked as point.Ahead and point.Behind ask them: leaves with Kids, elements with a text.
func TestSelOddTrees(t *testing.T) {
	odd := api.Node{Text: []rune("abc"), Kids: []api.Node{
		{Leaf: true, Text: []rune{-1, 0xd800}, Kids: []api.Node{leaf("de")}},
		{Text: []rune("xyz")},
	}}
	wantSels(t, []selOne{
		{odd, sel(pt(0, 1), pt(1, 1)), remove(1), sel(pt(2, 0, 0), pt(2, 0, 0))},
		{odd, sel(pt(0, 0, 0), pt(1, 0, 0)), remove(0, 0), sel(pt(0, 0, 0), pt(0, 0, 0))},
		{odd, sel(pt(0, 0), pt(1, 5)), remove(0), sel(pt(0, 0), pt(1, 4))},
		{api.Node{Leaf: true, Text: []rune("ab"), Kids: []api.Node{leaf("c")}}, sel(pt(0, 1), pt(0, 0)), remove(1), sel(pt(1, 0), pt(0, 0))},
	})
	// A root that is a leaf stands neither ahead of a path below it nor behind.
	wantSel(t, leaf("ab"), sel(pt(0, 0), pt(0, 0)), remove(0), api.Sel{})
}

// P10.2: trees and paths as deep as they may be.
func TestSelDeep(t *testing.T) {
	const deep = 1 << 16
	n := leaf("abc")
	for range deep {
		n = elem(n)
	}
	down := make([]int, deep)
	n.Kids = append(n.Kids, leaf("d"))
	wantSels(t, []selOne{
		{n, sel(pt(0, 1), pt(1, 2)), remove(1), sel(pt(3, down...), pt(1, 1))},
		{n, sel(pt(2, down...), pt(1, 1)), put(2, 2, down...), sel(pt(4, down...), pt(1, 1))},
		{n, sel(pt(2, down...), pt(2, down...)), remove(down...), sel(pt(0, down...), pt(0, down...))},
	})
	if r, is := xrange.Move(rg(pt(1, down...), pt(2, down...)), put(2, 2, down...), api.OutwardA); !is || !alike(r, rg(pt(1, down...), pt(4, down...))) {
		t.Fatalf("got %s, %v", span(r), is)
	}
}
