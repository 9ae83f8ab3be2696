package back_test

import (
	"math"
	"slices"
	"testing"

	"redline/api"
	"redline/back"
)

// P11.2: of each kind, with all of its fields.
func TestInverse(t *testing.T) {
	for _, x := range full() {
		wantInverse(t, x.o, x.inverse)
		wantInverse(t, x.inverse, x.o)
	}
	// The chapter's example.
	wantInverse(t, api.Op{Kind: api.SplitNode, Path: path(0), Pos: 3}, api.Op{Kind: api.MergeNode, Path: path(1), Pos: 3})
}

// P11.2: of each kind, with none of its fields: what is done at the root has an inverse, but for a MergeNode and a SplitNode.
func TestInverseOfNothing(t *testing.T) {
	for _, x := range full() {
		o := api.Op{Kind: x.o.Kind}
		if o.Kind == api.MergeNode || o.Kind == api.SplitNode {
			wantError(t, o, api.ErrRoot)
			continue
		}
		wantInverse(t, o, api.Op{Kind: x.inverse.Kind})
	}
}

// P11.2: a MergeNode is undone at the path ahead of its Path, if there is one.
func TestInverseOfMerge(t *testing.T) {
	for _, x := range []struct {
		p, want []int
		e       api.Errno
	}{
		{path(), nil, api.ErrRoot},
		{path(0), nil, api.ErrPos},
		{path(1), path(0), api.OK},
		{path(2), path(1), api.OK},
		{path(3, 0), nil, api.ErrPos},
		{path(3, 1), path(3, 0), api.OK},
		{path(0, 0, 1), path(0, 0, 0), api.OK},
		{path(math.MaxInt), path(math.MaxInt - 1), api.OK},
		{path(-1), nil, api.ErrPos},
		{path(1, math.MinInt), nil, api.ErrPos},
		{path(-1, 1), path(-1, 0), api.OK},
		{path(math.MinInt, 5, 1), path(math.MinInt, 5, 0), api.OK},
	} {
		wantMoved(t, api.Op{Kind: api.MergeNode, Path: x.p, Pos: 2, Old: props("a", "1")}, api.Op{Kind: api.SplitNode, Path: x.want, Pos: 2, New: props("a", "1")}, x.e)
	}
}

// P11.2: a SplitNode is undone at the path behind its Path, if there is one.
func TestInverseOfSplit(t *testing.T) {
	for _, x := range []struct {
		p, want []int
		e       api.Errno
	}{
		{path(), nil, api.ErrRoot},
		{path(0), path(1), api.OK},
		{path(3, 7), path(3, 8), api.OK},
		{path(1, 0, 0), path(1, 0, 1), api.OK},
		{path(math.MaxInt), nil, api.ErrPos},
		{path(0, math.MaxInt), nil, api.ErrPos},
		{path(math.MaxInt - 1), path(math.MaxInt), api.OK},
		{path(math.MaxInt, 0), path(math.MaxInt, 1), api.OK},
		{path(-1), path(0), api.OK},
		{path(-5), path(-4), api.OK},
		{path(math.MinInt), path(math.MinInt + 1), api.OK},
		{path(-1, 2), path(-1, 3), api.OK},
	} {
		wantMoved(t, api.Op{Kind: api.SplitNode, Path: x.p, Pos: 2, New: props("a", "1")}, api.Op{Kind: api.MergeNode, Path: x.want, Pos: 2, Old: props("a", "1")}, x.e)
	}
}

func wantMoved(t *testing.T, o, want api.Op, e api.Errno) {
	t.Helper()
	if e != api.OK {
		wantError(t, o, e)
		return
	}
	wantInverse(t, o, want)
}

// P11.2: where both fields that are changed round are the same, the operation is its own inverse.
func TestInverseOfTheSame(t *testing.T) {
	a, s := props("a", "1"), sel(pt(2, 1), pt(3, 4))
	for _, o := range []api.Op{
		{Kind: api.MoveNode, Path: path(1, 2), To: path(1, 2)},
		{Kind: api.SetNode, Path: path(1), Old: a, New: a},
		{Kind: api.SetSel, From: s, Into: s},
		{Kind: api.SetSel, From: no(pt(2, 1), pt(3, 4)), Into: no(pt(2, 1), pt(3, 4))},
	} {
		wantInverse(t, o, o)
	}
}

// P11.2: only those two fields are changed round; a node's Path, and what the points of a selection are, stay.
func TestInverseChangedRound(t *testing.T) {
	s, none := sel(pt(2, 1), pt(3, 4)), no(pt(5, 6), pt(-7))
	wantInverse(t, api.Op{Kind: api.SetSel, From: s}, api.Op{Kind: api.SetSel, Into: s})
	wantInverse(t, api.Op{Kind: api.SetSel, From: none, Into: s}, api.Op{Kind: api.SetSel, From: s, Into: none})
	wantInverse(t, api.Op{Kind: api.SetNode, Path: path(2), New: props("b", "")}, api.Op{Kind: api.SetNode, Path: path(2), Old: props("b", "")})
	wantInverse(t, api.Op{Kind: api.MoveNode, To: path(2)}, api.Op{Kind: api.MoveNode, Path: path(2)})
}

// P11.2: Form's error comes ahead of that of the path, and is told of what has no form whatever else it has.
func TestInverseForm(t *testing.T) {
	for _, kind := range append(nine(), strange()...) {
		for _, f := range fields() {
			for _, fill := range f.fills {
				for _, p := range [][]int{nil, path(0), path(1), path(math.MaxInt)} {
					o := api.Op{Kind: kind, Path: p}
					fill(&o)
					if e := back.Form(o); e != api.OK {
						wantError(t, o, api.ErrArg)
					}
				}
			}
		}
	}
	wantError(t, api.Op{Kind: api.MergeNode, New: props("a", "1")}, api.ErrArg)
	wantError(t, api.Op{Kind: api.SplitNode, Old: props("a", "1")}, api.ErrArg)
	wantError(t, api.Op{Kind: api.MergeNode, Path: path(3, 0), Text: []rune{0}}, api.ErrArg)
	wantError(t, api.Op{Kind: api.SplitNode, Path: path(math.MaxInt), To: path(0)}, api.ErrArg)
	wantError(t, api.Op{}, api.ErrArg)
}

// P11.2: whether what it has may be in a tree is nothing to an operation's inverse: paths, places, nodes, properties and texts are handed on as they are.
func TestInverseOfWhatMayNotBe(t *testing.T) {
	bad := path(-1, math.MinInt)
	wrong := api.Node{Text: []rune{-1}, Props: props("B", "!", "A", ""), Kids: []api.Node{{Leaf: true, Kids: []api.Node{{}}}}}
	lists := [][]api.Prop{slices.Repeat(props("b", ""), 99), props("", "?")}
	wantInverse(t, api.Op{Kind: 1, Path: bad, Node: wrong}, api.Op{Kind: 2, Path: bad, Node: wrong})
	wantInverse(t, api.Op{Kind: 2, Path: bad, Node: wrong}, api.Op{Kind: 1, Path: bad, Node: wrong})
	wantInverse(t, api.Op{Kind: 5, Path: bad, To: path(-2)}, api.Op{Kind: 5, Path: path(-2), To: bad})
	wantInverse(t, api.Op{Kind: 6, Path: bad, Old: lists[0], New: lists[1]}, api.Op{Kind: 6, Path: bad, Old: lists[1], New: lists[0]})
	for _, pos := range []int{math.MinInt, -1, api.MaxCap + 1, math.MaxInt} {
		wantInverse(t, api.Op{Kind: 3, Path: path(-1, 2), Pos: pos, Old: lists[0]}, api.Op{Kind: 4, Path: path(-1, 1), Pos: pos, New: lists[0]})
		wantInverse(t, api.Op{Kind: 4, Path: bad, Pos: pos, New: lists[1]}, api.Op{Kind: 3, Path: path(-1, math.MinInt+1), Pos: pos, Old: lists[1]})
		wantInverse(t, api.Op{Kind: 7, Path: bad, Pos: pos, Text: []rune{-1, 0xd800}}, api.Op{Kind: 8, Path: bad, Pos: pos, Text: []rune{-1, 0xd800}})
		wantInverse(t, api.Op{Kind: 8, Path: bad, Pos: pos, Text: []rune{1 << 30}}, api.Op{Kind: 7, Path: bad, Pos: pos, Text: []rune{1 << 30}})
	}
}

// P11.2: what is very long, or very deep, is no less undone.
func TestInverseOfMuch(t *testing.T) {
	long := slices.Repeat(path(3), 1<<16)
	text := slices.Repeat([]rune{'a'}, 1<<20)
	wantInverse(t, api.Op{Kind: 7, Path: long, Text: text}, api.Op{Kind: 8, Path: long, Text: text})
	ahead := append(slices.Clone(long[1:]), 2)
	wantInverse(t, api.Op{Kind: 3, Path: long}, api.Op{Kind: 4, Path: ahead})
	deep := chain(1<<16-1, leaf("a"))
	got, e := back.Inverse(api.Op{Kind: 2, Node: deep})
	at := got.Node
	for range 1<<16 - 1 {
		if len(at.Kids) != 1 {
			t.Fatal("a deep node is not handed on whole")
		}
		at = at.Kids[0]
	}
	if e != api.OK || got.Kind != api.InsertNode || string(at.Text) != "a" {
		t.Fatalf("got %d, %d", got.Kind, e)
	}
}
