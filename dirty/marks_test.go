package dirty_test

import (
	"fmt"
	"math"
	"slices"
	"testing"

	"redline/api"
	"redline/dirty"
)

// deep is a tree of several levels: elements at the root, 0, 0 1, 0 1 1, 2, 3, 3 1, 3 2, 3 2 0; leaves at 0 0, 0 1 0, 1, 3 0, 3 1 0, 3 2 0 0.
const deep = `[["a"["b"[]]]"c"[]["d"["e"][["f"]]]]`

// one is one case: an operation, and what is told of it.
type one struct {
	o    api.Op
	want [][]int
}

func wantMarks(t *testing.T, n api.Node, all []one) {
	t.Helper()
	for _, x := range all {
		wantSet(t, what(n, x.o), dirty.Marks(n, x.o), x.want)
	}
}

// P13.2: InsertNode marks the parent of Path, Path, and all below it; nothing beside it, whatever begins alike.
func TestInsertNode(t *testing.T) {
	wantMarks(t, tr(deep), []one{
		{insert(0), paths(nil, path(0), path(0, 1), path(0, 1, 1))},
		{insert(1), paths(nil)},
		{insert(2), paths(nil, path(2))},
		{insert(3), paths(nil, path(3), path(3, 1), path(3, 2), path(3, 2, 0))},
		{insert(0, 0), paths(path(0))},
		{insert(0, 1), paths(path(0), path(0, 1), path(0, 1, 1))},
		{insert(0, 1, 0), paths(path(0, 1))},
		{insert(0, 1, 1), paths(path(0, 1), path(0, 1, 1))},
		{insert(3, 0), paths(path(3))},
		{insert(3, 1), paths(path(3), path(3, 1))},
		{insert(3, 2), paths(path(3), path(3, 2), path(3, 2, 0))},
		{insert(3, 2, 0, 0), paths(path(3, 2, 0))},
	})
	wantMarks(t, tr(`["a"[][]["b"][][][][][][][["c"]][]]`), []one{
		{insert(1), paths(nil, path(1))},
		{insert(10), paths(nil, path(10), path(10, 0))},
		{insert(11), paths(nil, path(11))},
	})
}

// P13.2: of an InsertNode whose Path is empty all elements are marked: they are at Path, and below it.
func TestInsertNodeRoot(t *testing.T) {
	wantMarks(t, tr(deep), []one{{insert(), elementsOf(tr(deep))}})
	wantMarks(t, elem(), []one{{insert(), paths(nil)}, {insert(0), paths(nil)}, {insert(0, 0), nil}})
	wantMarks(t, leaf("a"), []one{{insert(), nil}, {insert(0), nil}})
}

// P13.2: RemoveNode marks the parent of Path alone, whatever stands at Path then.
func TestRemoveNode(t *testing.T) {
	wantMarks(t, tr(deep), []one{
		{remove(0), paths(nil)},
		{remove(3), paths(nil)},
		{remove(4), paths(nil)},
		{remove(0, 0), paths(path(0))},
		{remove(0, 1), paths(path(0))},
		{remove(0, 1, 2), paths(path(0, 1))},
		{remove(0, 1, 1, 0), paths(path(0, 1, 1))},
		{remove(2, 0), paths(path(2))},
		{remove(3, 2, 0, 1), paths(path(3, 2, 0))},
		{remove(1, 0), nil},
		{remove(0, 0, 0), nil},
		{remove(), nil},
	})
}

// P13.2: MergeNode marks the parent of Path, and the path ahead of it, which there is not ahead of the first place.
func TestMergeNode(t *testing.T) {
	wantMarks(t, tr(deep), []one{
		{merge(0, 1), paths(nil, path(0))},
		{merge(9, 1), paths(nil, path(0))},
		{merge(1, 2), paths(nil)},
		{merge(2, 3), paths(nil, path(2))},
		{merge(2, 4), paths(nil, path(3))},
		{merge(2, 5), paths(nil)},
		{merge(0, 0), paths(nil)},
		{merge(0, -1), paths(nil)},
		{merge(0, math.MinInt), paths(nil)},
		{merge(0, math.MaxInt), paths(nil)},
		{merge(1, 0, 0), paths(path(0))},
		{merge(1, 0, 1), paths(path(0))},
		{merge(1, 0, 2), paths(path(0), path(0, 1))},
		{merge(1, 0, 1, 2), paths(path(0, 1), path(0, 1, 1))},
		{merge(1, 3, 2), paths(path(3), path(3, 1))},
		{merge(1, 3, 2, 1), paths(path(3, 2), path(3, 2, 0))},
		{merge(1, 1, 1), nil},
		{merge(1), nil},
	})
}

// P13.2: SplitNode marks the parent of Path, Path, and the path behind it, which there is not behind the last number.
func TestSplitNode(t *testing.T) {
	wantMarks(t, tr(deep), []one{
		{split(0, 0), paths(nil, path(0))},
		{split(9, 0), paths(nil, path(0))},
		{split(0, 1), paths(nil, path(2))},
		{split(0, 2), paths(nil, path(2), path(3))},
		{split(0, 3), paths(nil, path(3))},
		{split(0, 4), paths(nil)},
		{split(0, -1), paths(nil, path(0))},
		{split(0, -2), paths(nil)},
		{split(0, math.MaxInt), paths(nil)},
		{split(0, math.MinInt), paths(nil)},
		{split(1, 0, 0), paths(path(0), path(0, 1))},
		{split(1, 0, 1), paths(path(0), path(0, 1))},
		{split(1, 0, 1, 0), paths(path(0, 1), path(0, 1, 1))},
		{split(1, 0, 1, 1), paths(path(0, 1), path(0, 1, 1))},
		{split(1, 3, 1), paths(path(3), path(3, 1), path(3, 2))},
		{split(1, 3, 2, 0), paths(path(3, 2), path(3, 2, 0))},
		{split(1, 1, 0), nil},
		{split(1), paths(nil)},
	})
}

// P13.2: MoveNode marks the parent of To as it is, and the parent of Path where it goes.
func TestMoveNode(t *testing.T) {
	wantMarks(t, tr(deep), []one{
		// Beside one another, and where the node stood: both are the same one.
		{move(path(0), path(3)), paths(nil)},
		{move(path(2), path(2)), paths(nil)},
		{move(path(0, 1), path(0, 1)), paths(path(0))},
		{move(path(3, 1), path(3, 0)), paths(path(3))},
		// From one to another one, neither of which goes anywhere.
		{move(path(0, 2), path(3, 1)), paths(path(0), path(3))},
		{move(path(3, 2, 0, 1), path(0, 1, 1, 0)), paths(path(0, 1, 1), path(3, 2, 0))},
		{move(path(3, 1, 0), path(4)), paths(nil, path(3, 1))},
		{move(path(4), path(3, 1)), paths(nil, path(3))},
		// The parent goes one place further behind what was put in ahead of it, also if that is ahead of one above it.
		{move(path(2, 0), path(2)), paths(nil, path(3))},
		{move(path(1, 0), path(0)), paths(nil, path(2))},
		{move(path(2, 1, 0), path(0)), paths(nil, path(3, 1))},
		{move(path(2, 2, 0, 0), path(2)), paths(nil, path(3, 2, 0))},
		{move(path(3, 1, 1, 2), path(3, 0)), paths(path(3))},
		{move(path(3, 1, 0, 1), path(3, 0)), paths(path(3), path(3, 2, 0))},
		{move(path(0, 0, 4), path(0, 0)), paths(path(0), path(0, 1))},
		// A leaf, or nothing, stands where it goes.
		{move(path(0, 1), path(0)), paths(nil)},
		{move(path(8, 1), path(0)), paths(nil)},
		{move(path(0, 0, 0), path(0, 2)), paths(path(0))},
		// A leaf, or nothing, is the parent of To.
		{move(path(3, 1, 1), path(1, 0)), paths(path(3, 1))},
		{move(path(3, 1, 1), path(9, 9)), paths(path(3, 1))},
		// The root goes nowhere.
		{move(path(2), path(3, 0)), paths(nil, path(3))},
		{move(path(2), path(0, 1, 1, 0)), paths(nil, path(0, 1, 1))},
	})
}

// P13.2: of a MoveNode without one of its paths what the other one says is left; where xpath.Move tells nothing, the parent of To is.
func TestMoveNodeNowhere(t *testing.T) {
	wantMarks(t, tr(deep), []one{
		{move(nil, nil), nil},
		{move(nil, path(0)), paths(nil)},
		{move(nil, path(0, 1)), paths(path(0))},
		{move(path(0), nil), paths(nil)},
		{move(path(0, 1), nil), paths(path(0))},
		{move(path(0, -1), path(3, 0)), paths(path(3))},
		{move(path(0, 1), path(3, -1)), paths(path(3))},
		{move(path(0, 1), path(-1)), paths(nil)},
		{move(path(0, 1), path(-1, 0)), nil},
		{move(path(0, math.MaxInt), path(2, math.MaxInt)), paths(path(2))},
		{move(path(0, 1), path(2, api.MaxCap)), paths(path(0), path(2))},
		{move(path(0, 1), path(2, api.MaxCap+1)), paths(path(2))},
		{move(path(0, api.MaxCap), path(2, 0)), paths(path(0), path(2))},
		{move(path(-1), path(2, 0)), paths(path(2))},
		{api.Op{Kind: api.MoveNode, Path: path(0, 1), To: path(2, 0), Pos: -1}, paths(path(2))},
		{api.Op{Kind: api.MoveNode, Path: path(0, 1), To: path(2, 0), Pos: 1}, paths(path(0), path(2))},
	})
}

// P13.2: SetNode, InsertText and RemoveText mark Path, and its parent.
func TestSetNodeAndTexts(t *testing.T) {
	for _, of := range []func(...int) api.Op{set, put, take} {
		wantMarks(t, tr(deep), []one{
			{of(), paths(nil)},
			{of(0), paths(nil, path(0))},
			{of(1), paths(nil)},
			{of(2), paths(nil, path(2))},
			{of(0, 0), paths(path(0))},
			{of(0, 1), paths(path(0), path(0, 1))},
			{of(0, 1, 0), paths(path(0, 1))},
			{of(0, 1, 1), paths(path(0, 1), path(0, 1, 1))},
			{of(3, 2, 0), paths(path(3, 2), path(3, 2, 0))},
			{of(3, 2, 0, 0), paths(path(3, 2, 0))},
			{of(4), paths(nil)},
			{of(-1), paths(nil)},
			{of(3, 9), paths(path(3))},
			{of(1, 0), nil},
			{of(9, 9), nil},
		})
		wantMarks(t, leaf("a"), []one{{of(), nil}, {of(0), nil}})
	}
	// The chapter's example.
	wantMarks(t, tr(`[["a""b"]]`), []one{{put(0, 1), paths(path(0))}})
}

// P13.2: SetSel, and what is no kind, mark nothing, whatever fields they have.
func TestOthers(t *testing.T) {
	for _, kind := range append(strange(), api.SetSel) {
		for _, p := range [][]int{nil, path(0), path(3, 2), path(3, 2, 0), path(1), path(9)} {
			wantMarks(t, tr(deep), []one{
				{api.Op{Kind: kind, Path: p}, nil},
				{api.Op{Kind: kind, Path: p, To: p, Pos: 1, Node: elem(elem())}, nil},
				{api.Op{Kind: kind, Into: api.Sel{Is: true, Range: api.Range{Anchor: api.Point{Path: p}}}}, nil},
			})
		}
	}
}

// P13.2: paths that lead nowhere mark no more than the elements that stand by them; of numbers that no place has, it is their parent alone.
func TestMarksNowhere(t *testing.T) {
	n := tr(deep)
	for _, kind := range kinds() {
		if kind == api.SetSel || kind == api.MoveNode {
			continue
		}
		for _, i := range odd() {
			root, at, below := paths(nil), paths(path(3, 2)), [][]int(nil)
			if i == -1 && kind == api.SplitNode {
				// The path behind that is the first place.
				root, at = paths(nil, path(0)), paths(path(3, 2), path(3, 2, 0))
			}
			for _, x := range []one{
				{api.Op{Kind: kind, Path: path(i)}, root},
				{api.Op{Kind: kind, Path: path(3, 2, i)}, at},
				{api.Op{Kind: kind, Path: path(i, 0)}, below},
				{api.Op{Kind: kind, Path: path(0, i, 1)}, below},
				{api.Op{Kind: kind, Path: path(1, i)}, below},
				{api.Op{Kind: kind, Path: path(i, i, i)}, below},
			} {
				wantMarks(t, n, []one{x})
			}
		}
	}
}

// P13.2: what an operation has beside its paths is nothing to what it marks, but for what xpath.Move tells of a MoveNode.
func TestMarksByPathsAlone(t *testing.T) {
	n := tr(deep)
	for _, kind := range kinds() {
		if kind == api.MoveNode {
			continue
		}
		for _, p := range elementsOf(n) {
			want := dirty.Marks(n, api.Op{Kind: kind, Path: p})
			for _, pos := range []int{math.MinInt, -1, 1, 9, math.MaxInt} {
				o := api.Op{Kind: kind, Path: p, To: path(-1), Pos: pos, Node: n, Old: []api.Prop{{}}, New: []api.Prop{{K: "type"}}, Text: []rune{-1}, From: api.Sel{Is: true}}
				wantSet(t, what(n, o), dirty.Marks(n, o), want)
			}
		}
	}
}

// P13.2: on deep and on wide trees.
func TestMarksGreat(t *testing.T) {
	const far = 1 << 18
	n := wide(far, elem(leaf("a")))
	n.Kids[7] = wide(1000, elem())
	under := paths(nil, path(7))
	for i := range 1000 {
		under = append(under, path(7, i))
	}
	wantMarks(t, n, []one{
		{insert(7), under},
		{insert(far - 1), paths(nil, path(far-1))},
		{split(0, far-2), paths(nil, path(far-2), path(far-1))},
		{split(0, far-1), paths(nil, path(far-1))},
		{merge(0, far), paths(nil, path(far-1))},
		{merge(0, far+1), paths(nil)},
		{move(path(far-2, 0), path(0)), paths(nil, path(far-1))},
		{set(far - 1), paths(nil, path(far-1))},
		{put(far-1, 0), paths(path(far - 1))},
	})
	down := make([]int, 1<<16)
	n = chain(len(down), elem(leaf("a"), elem()))
	below := func(i ...int) []int { return slices.Concat(down, i) }
	wantMarks(t, n, []one{
		{insert(below(1)...), paths(below(), below(1))},
		{insert(below(0)...), paths(below())},
		{insert(down...), paths(down[1:], down, below(1))},
		{remove(below(2)...), paths(below())},
		{merge(0, below(2)...), paths(below(), below(1))},
		{split(0, below(0)...), paths(below(), below(1))},
		{move(below(1), below(0)), paths(below())},
		{move(below(1), path(0)), paths(nil)},
		{set(below(1)...), paths(below(), below(1))},
		{take(below(0)...), paths(below())},
		{take(below(0, 0)...), nil},
	})
}

// P13.2: also where a leaf has Kids, an element that is among them stands in the tree.
func TestMarksInLeaves(t *testing.T) {
	n := elem(api.Node{Leaf: true, Kids: []api.Node{elem(elem()), leaf("a")}}, elem())
	wantMarks(t, n, []one{
		{insert(0), paths(nil, path(0, 0), path(0, 0, 0))},
		{remove(0, 0), nil},
		{remove(0, 0, 0), paths(path(0, 0))},
		{split(0, 0), paths(nil, path(1))},
		{merge(0, 0, 1), paths(path(0, 0))},
		{set(0, 0), paths(path(0, 0))},
	})
}

// P13.2: of all small trees, all small paths, and all kinds, what the chapter's words say.
func TestMarksByWords(t *testing.T) {
	near := places(3, 2)
	for _, n := range trees(4, true) {
		for _, p := range near {
			for _, kind := range append(kinds(), 0, 10) {
				if kind != api.MoveNode {
					o := api.Op{Kind: kind, Path: p}
					wantSet(t, what(n, o), dirty.Marks(n, o), markedBy(n, o))
				}
			}
			for _, to := range near {
				o := move(p, to)
				wantSet(t, fmt.Sprint(p, to, show(n)), dirty.Marks(n, o), markedBy(n, o))
			}
		}
	}
}
