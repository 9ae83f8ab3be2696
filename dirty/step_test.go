package dirty_test

import (
	"fmt"
	"math"
	"slices"
	"testing"

	"redline/api"
	"redline/dirty"
	"redline/trail"
)

// step is one case: paths, an operation, and what is told of them, on the tree behind it.
type step struct {
	l    [][]int
	o    api.Op
	want [][]int
}

// wantSteps looks at each case with its list as it stands, turned round, and with each path twice.
func wantSteps(t *testing.T, n api.Node, all []step) {
	t.Helper()
	for _, x := range all {
		turned := slices.Clone(x.l)
		slices.Reverse(turned)
		for _, l := range [][][]int{x.l, turned, slices.Concat(x.l, turned), slices.Concat(turned, x.l, turned)} {
			wantSet(t, what(n, x.o)+" of "+few(l), dirty.Step(n, l, x.o), x.want)
		}
	}
}

// P13.3: of no paths, what is marked alone.
func TestStepFromNone(t *testing.T) {
	n := tr(deep)
	for _, kind := range append(kinds(), strange()...) {
		for _, p := range places(2, 4) {
			o := api.Op{Kind: kind, Path: p, To: path(3, 1), Pos: 1}
			want := markedBy(n, o)
			wantSet(t, what(n, o), dirty.Step(n, nil, o), want)
			wantSet(t, what(n, o), dirty.Step(n, [][]int{}, o), want)
		}
	}
}

// P13.3: what stands at an InsertNode's path, below it, and behind it goes on by one.
func TestStepInsertNode(t *testing.T) {
	wantSteps(t, tr(deep), []step{
		{paths(path(1)), insert(1), paths(nil, path(2))},
		{paths(path(0, 1), path(1), path(2)), insert(1), paths(nil, path(0, 1), path(2), path(3))},
		{paths(path(2), path(2, 0), path(2, 1), path(2, 1, 0)), insert(0, 0), paths(path(0), path(2))},
		{paths(path(2, 0), path(2, 1), path(2, 2, 0)), insert(2), paths(nil, path(2), path(3, 1), path(3, 2, 0))},
		{paths(path(2, 2), path(2, 2, 0)), insert(1), paths(nil, path(3, 2), path(3, 2, 0))},
		{paths(path(0, 1, 0)), insert(0, 1, 0), paths(path(0, 1), path(0, 1, 1))},
		// What was put in is marked, also where a path comes to stand there.
		{paths(path(2), path(3)), insert(3), paths(nil, path(2), path(3), path(3, 1), path(3, 2), path(3, 2, 0))},
	})
	// The chapter's tests have this one.
	wantSteps(t, tr(`[["a""b"]"c"[[]"d"]]`), []step{{paths(path(1, 0), path(0), path(1), path(7)), insert(1), paths(nil, path(0), path(2), path(2, 0))}})
}

// P13.3: what a RemoveNode took out is not told, with all that was below it; what stands behind that comes up.
func TestStepRemoveNode(t *testing.T) {
	wantSteps(t, tr(deep), []step{
		{paths(path(3)), remove(3), paths(nil)},
		{paths(path(3), path(3, 1), path(3, 2, 0)), remove(3), paths(nil)},
		{paths(path(3), path(4)), remove(3), paths(nil, path(3))},
		{paths(path(3, 1), path(4, 2), path(4, 2, 0)), remove(1), paths(nil, path(3, 2), path(3, 2, 0))},
		{paths(path(0, 1, 1), path(0, 2, 1)), remove(0, 1), paths(path(0), path(0, 1, 1))},
		{paths(path(0, 2), path(3)), remove(0, 0), paths(path(0), path(0, 1), path(3))},
		{paths(path(2)), remove(1), paths(nil)},
		{paths(nil), remove(3, 1), paths(nil, path(3))},
		{paths(nil, path(0)), remove(), paths(nil, path(0))},
	})
}

// P13.3: what a MergeNode took in goes to what took it in, its Kids behind that one's.
func TestStepMergeNode(t *testing.T) {
	wantSteps(t, tr(deep), []step{
		{paths(path(4)), merge(1, 4), paths(nil, path(3))},
		{paths(path(3), path(4)), merge(1, 4), paths(nil, path(3))},
		{paths(path(4, 0), path(4, 1)), merge(1, 4), paths(nil, path(3), path(3, 1), path(3, 2))},
		{paths(path(4, 1, 0), path(3, 1)), merge(1, 4), paths(nil, path(3), path(3, 1), path(3, 2, 0))},
		{paths(path(4, 0), path(4, 9)), merge(0, 4), paths(nil, path(3))},
		{paths(path(3), path(4, 1), path(0)), merge(7, 2), paths(nil, path(0), path(2), path(3, 1))},
		{paths(path(1)), merge(1, 1), paths(nil, path(0))},
		{paths(path(1, 0), path(1, 1)), merge(1, 1), paths(nil, path(0), path(0, 1))},
		// A MergeNode at the first place takes no path anywhere.
		{paths(nil, path(0), path(3)), merge(0, 0), paths(nil)},
		{paths(nil, path(0), path(3)), merge(0, 3, 0), paths(path(3))},
	})
}

// P13.3: what a SplitNode split off goes to the place behind.
func TestStepSplitNode(t *testing.T) {
	wantSteps(t, tr(deep), []step{
		{paths(path(2)), split(0, 2), paths(nil, path(2), path(3))},
		{paths(path(2, 1), path(2, 2)), split(0, 2), paths(nil, path(2), path(3), path(3, 1), path(3, 2))},
		{paths(path(2, 1), path(2, 2, 0), path(2, 3, 0)), split(1, 2), paths(nil, path(2), path(3), path(3, 2, 0))},
		{paths(path(0, 1), path(0, 2), path(2)), split(2, 0), paths(nil, path(0), path(0, 1), path(3))},
		{paths(path(2), path(2, 1)), split(3, 1), paths(nil, path(2), path(3), path(3, 1))},
		{paths(path(3, 1, 0), path(3, 1, 1)), split(1, 3, 1), paths(path(3), path(3, 1), path(3, 2), path(3, 2, 0))},
	})
}

// P13.3: what a MoveNode moved goes to To; all others make room.
func TestStepMoveNode(t *testing.T) {
	wantSteps(t, tr(deep), []step{
		{paths(path(0), path(0, 1), path(0, 2), path(0, 2, 0)), move(path(0), path(3)), paths(nil, path(3), path(3, 1), path(3, 2), path(3, 2, 0))},
		{paths(path(3)), move(path(0), path(3)), paths(nil, path(2))},
		{paths(path(1), path(3), path(4)), move(path(0), path(3)), paths(nil, path(0), path(2))},
		{paths(path(1, 1), path(2, 1), path(2, 2, 0), path(3, 1), path(4)), move(path(3, 1), path(0)), paths(nil, path(0), path(3, 1), path(3, 2, 0))},
		{paths(path(1), path(1, 1), path(2), path(2, 1)), move(path(2, 1), path(0)), paths(nil, path(0), path(2), path(3))},
		{paths(path(2), path(2, 2), path(2, 1, 0)), move(path(2, 1), path(0, 1, 1)), paths(path(0, 1), path(2))},
		{paths(path(2), path(2, 1), path(2, 1, 0)), move(path(2, 1), path(3, 2)), paths(path(2), path(3), path(3, 2), path(3, 2, 0))},
		// Where the node stood all stay.
		{paths(path(0, 1), path(2), path(3, 2, 0)), move(path(2), path(2)), paths(nil, path(0, 1), path(2), path(3, 2, 0))},
		// What goes where a leaf, or nothing stands is not told.
		{paths(path(2), path(2, 1)), move(path(2), path(1)), paths(nil)},
		{paths(path(2), path(2, 1)), move(path(2), path(9)), paths(nil)},
	})
}

// P13.3: a SetNode, and a text put in or taken out, take no path anywhere; nor do a SetSel and what is no kind, which mark nothing.
func TestStepOthers(t *testing.T) {
	for _, of := range []func(...int) api.Op{set, put, take} {
		wantSteps(t, tr(deep), []step{
			{paths(path(2)), of(0, 1, 0), paths(path(0, 1), path(2))},
			{paths(path(0, 1), path(0), path(3, 2)), of(0, 1), paths(path(0), path(0, 1), path(3, 2))},
			{paths(path(1), path(3, 0), path(9)), of(1), paths(nil)},
			{paths(path(3, 2, 0), nil), of(), paths(nil, path(3, 2, 0))},
		})
	}
	for _, kind := range append(strange(), api.SetSel) {
		for _, p := range [][]int{nil, path(0), path(2), path(3, 1)} {
			wantSteps(t, tr(deep), []step{
				{nil, api.Op{Kind: kind, Path: p}, nil},
				{paths(nil), api.Op{Kind: kind, Path: p}, paths(nil)},
				{paths(path(3), path(0, 1), path(0)), api.Op{Kind: kind, Path: p}, paths(path(0), path(0, 1), path(3))},
				{paths(path(3, 0), path(1), path(1, 0), path(4), path(2)), api.Op{Kind: kind, Path: p, To: p, Pos: 1}, paths(path(2))},
			})
		}
	}
}

// P13.3: of what leads nowhere nothing is told, whatever numbers it has.
func TestStepNowhere(t *testing.T) {
	n := tr(deep)
	for _, i := range odd() {
		l := paths(path(i), path(2, i), path(i, 2), path(2), path(i, i), path(3, 2, 0, i))
		wantSteps(t, n, []step{
			{l, choose(), paths(path(2))},
			{l, put(0, 0), paths(path(0), path(2))},
			{l, remove(3, 2, 0, 1), paths(path(2), path(3, 2, 0))},
			{l, split(1, 1), paths(nil, path(2), path(3))},
		})
	}
}

// P13.3: where xpath.Move tells nothing of any path, since the operation's numbers are none, what is marked is told alone.
func TestStepMovesNothing(t *testing.T) {
	n, l := tr(deep), paths(nil, path(0), path(2), path(3, 2))
	for _, i := range []int{math.MinInt, -1, api.MaxCap + 1, math.MaxInt} {
		for _, x := range []one{
			{insert(i), paths(nil)},
			{insert(0, i), paths(path(0))},
			{remove(3, i), paths(path(3))},
			{merge(i, 4), paths(nil, path(3))},
			{split(i, 1), paths(nil, path(2))},
			{set(0, i), paths(path(0))},
			{put(i, 0), nil},
			{move(path(2), path(0, i)), paths(path(0))},
			{move(path(0, i), path(2, 0)), paths(path(2))},
			{api.Op{Kind: api.SetSel, Pos: i}, nil},
			{api.Op{Kind: api.SetSel, Path: path(i)}, nil},
			{api.Op{Kind: api.SetNode, Path: path(2), To: path(i)}, paths(nil, path(2))},
			{api.Op{Kind: 0, To: path(i)}, nil},
		} {
			wantSteps(t, n, []step{{l, x.o, x.want}})
		}
	}
}

// P13.3: the tree is a leaf, or an element alone.
func TestStepOnOne(t *testing.T) {
	l := paths(nil, path(0), path(0, 0))
	for _, kind := range append(kinds(), 0) {
		for _, p := range l {
			o := api.Op{Kind: kind, Path: p, To: p}
			wantSteps(t, leaf("a"), []step{{l, o, nil}})
			wantSet(t, what(elem(), o), dirty.Step(elem(), l, o), steppedBy(elem(), l, o))
		}
	}
	wantSteps(t, elem(), []step{{l, remove(0), paths(nil)}, {l, set(0, 0), paths(nil)}, {l, choose(), paths(nil)}})
}

// P13.3: of all small trees, by all small operations, what the chapter's words say, of lists in several orders.
func TestStepByWords(t *testing.T) {
	all := places(3, 2)
	turned := slices.Clone(all)
	slices.Reverse(turned)
	lists := [][][]int{all, slices.Concat(turned, all), paths(path(1), nil, path(0, 1), path(1)), paths(path(2, 0), path(0, 2), path(0, 1, 0), path(1, 0, 0)), paths(path(0))}
	small := places(2, 2)
	for _, n := range trees(4, true) {
		for _, l := range lists {
			for _, p := range small {
				for _, kind := range []int{api.InsertNode, api.RemoveNode, api.SetNode, api.InsertText, api.RemoveText, api.SetSel, 0} {
					wantStepByWords(t, n, l, api.Op{Kind: kind, Path: p})
				}
				for pos := range 3 {
					wantStepByWords(t, n, l, merge(pos, p...))
					wantStepByWords(t, n, l, split(pos, p...))
				}
			}
		}
		for _, p := range small {
			for _, to := range small {
				wantStepByWords(t, n, turned, move(p, to))
			}
		}
	}
}

func wantStepByWords(t *testing.T, n api.Node, l [][]int, o api.Op) {
	t.Helper()
	wantSet(t, what(n, o)+" of "+few(l), dirty.Step(n, l, o), steppedBy(n, l, o))
}

// P13.3: of very many paths, in whatever order.
func TestStepGreat(t *testing.T) {
	const far = 1 << 16
	n := wide(far, elem())
	var l, want [][]int
	for i := range far {
		// Each place once, far from the one ahead of it.
		l = append(l, path(i*77773%far))
		want = append(want, path(i))
	}
	rises := slices.Clone(l)
	slices.SortFunc(rises, trail.Compare)
	turned := slices.Clone(rises)
	slices.Reverse(turned)
	for i, l := range [][][]int{l, rises, turned, slices.Concat(rises, rises), slices.Concat(turned, l)} {
		wantSet(t, fmt.Sprint("list ", i), dirty.Step(n, l, choose()), want)
		wantSet(t, fmt.Sprint("list ", i), dirty.Step(n, l, insert(0)), slices.Concat(paths(nil), want))
		wantSet(t, fmt.Sprint("list ", i), dirty.Step(n, l, remove(far/2)), slices.Concat(paths(nil), want[:far-1]))
		wantSet(t, fmt.Sprint("list ", i), dirty.Step(n, l, move(path(0), path(far-1))), slices.Concat(paths(nil), want))
	}
	n.Kids[0] = wide(far, elem())
	var below [][]int
	for i := range far {
		below = append(below, path(0, i))
	}
	both := slices.Concat(want, below)
	wantSet(t, "merged", dirty.Step(n, both, merge(0, 1)), slices.Concat(paths(nil), want[:1], below, want[1:far-1]))
	down := make([]int, 1<<16)
	deep := chain(len(down), elem(elem(), elem()))
	at := func(i ...int) []int { return slices.Concat(down, i) }
	wantSteps(t, deep, []step{
		{paths(at(1), at(), at(0), path(0)), remove(at(0)...), paths(path(0), at(), at(0))},
		{paths(at(1), path(1)), move(at(1), path(0)), paths(nil, path(0))},
	})
}
