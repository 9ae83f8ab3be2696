package xrange_test

import (
	"slices"
	"strings"
	"testing"

	"redline/api"
	"redline/xrange"
)

func standsIn(all []api.Point, r api.Range) bool {
	for _, p := range []api.Point{r.Anchor, r.Focus} {
		if !slices.ContainsFunc(all, func(g api.Point) bool { return compare(g, p) == 0 }) {
			return false
		}
	}
	return true
}

// P10.3: in each small tree, behind each operation that can be done on it, a selection that was in the tree is in the tree, and is none just if no leaf is left for a point that was taken out.
func TestSelStays(t *testing.T) {
	inTrees(func(n, behind api.Node, o api.Op) {
		all := gaps(behind)
		for _, r := range pairs(gaps(n)) {
			got := xrange.Sel(behind, api.Sel{Is: true, Range: r}, o)
			if got.Is != (len(all) > 0) || got.Is && !standsIn(all, got.Range) || !got.Is && !alike(got.Range, api.Range{}) {
				t.Fatalf("%s: %v, %s is not of the tree", what(r, o), got.Is, span(got.Range))
			}
		}
	})
}

// P10.2: in each small tree a point that is taken out with a node goes to the last one that stood ahead of that node, or, if none did, to the first one of what is left.
func TestSelNear(t *testing.T) {
	inTrees(func(n, behind api.Node, o api.Op) {
		all := gaps(behind)
		if o.Kind != api.RemoveNode || len(all) == 0 {
			return
		}
		ahead := slices.DeleteFunc(gaps(n), func(p api.Point) bool { return slices.Compare(p.Path, o.Path) >= 0 })
		want := all[0]
		if len(ahead) > 0 {
			want = ahead[len(ahead)-1]
		}
		for _, p := range gaps(n) {
			if len(p.Path) >= len(o.Path) && slices.Equal(p.Path[:len(o.Path)], o.Path) {
				wantSel(t, behind, sel(p, p), o, sel(want, want))
			}
		}
	})
}

// P10.1: in each small tree what is told is a range of the tree behind the operation; nothing is told only where a point is taken out, or stands without an affinity where its leaf is split.
func TestRangeStays(t *testing.T) {
	inTrees(func(n, behind api.Node, o api.Op) {
		all := gaps(behind)
		for _, r := range pairs(gaps(n)) {
			for _, aff := range affs() {
				got, is := xrange.Move(r, o, aff)
				if is && !standsIn(all, got) {
					t.Fatalf("%s, %d: %s is not of the tree", what(r, o), aff, span(got))
				}
				if !is && o.Kind != api.RemoveNode && (o.Kind != api.SplitNode || aff != api.NoneA) {
					t.Fatalf("%s, %d: nothing is told", what(r, o), aff)
				}
			}
		}
	})
}

// P10.1: in each small tree a range turned round goes to the range turned round, and none is turned round by what does not move nodes past others.
func TestTurned(t *testing.T) {
	inTrees(func(n, behind api.Node, o api.Op) {
		for _, r := range pairs(gaps(n)) {
			for _, aff := range affs() {
				got, is := xrange.Move(r, o, aff)
				if compare(r.Anchor, r.Focus) != 0 {
					wantMove(t, turned(r), o, aff, answer{turned(got), is})
				}
				if compare(r.Anchor, r.Focus)*compare(got.Anchor, got.Focus) < 0 && o.Kind != api.MoveNode {
					t.Fatalf("%s, %d: %s is turned round", what(r, o), aff, span(got))
				}
			}
		}
	})
}

// comesIn tells whether what an operation puts in comes between a range's points; where it comes just at one of them, out tells.
func comesIn(r api.Range, o api.Op, out bool) bool {
	start, end := r.Anchor, r.Focus
	if compare(end, start) < 0 {
		start, end = end, start
	}
	if o.Kind == api.InsertNode {
		return slices.Compare(start.Path, o.Path) < 0 && slices.Compare(o.Path, end.Path) <= 0
	}
	p := pt(o.Pos, o.Path...)
	if compare(p, start) == 0 || compare(p, end) == 0 {
		return out
	}
	return compare(start, p) < 0 && compare(p, end) < 0
}

// P10.3: in each small tree, whatever text or node is put in, an inward range has the runes that it had, and those that come between its points, but not what comes just at them; an outward one has that, too.
func TestTakesIn(t *testing.T) {
	inTrees(func(n, behind api.Node, o api.Op) {
		if o.Kind != api.InsertText && o.Kind != api.InsertNode {
			return
		}
		for _, r := range pairs(gaps(n)) {
			for _, aff := range []int{api.InwardA, api.OutwardA} {
				got, is := xrange.Move(r, o, aff)
				text := inside(behind, got)
				if !is || strings.ReplaceAll(text, "t", "") != inside(n, r) || strings.Contains(text, "tt") != comesIn(r, o, aff == api.OutwardA) {
					t.Fatalf("%s, %d: %s has %q", what(r, o), aff, span(got), text)
				}
			}
		}
	})
}

// P10.3: in each small tree a range of any affinity that is told has the runes that it had, but those that were taken out, whatever is split, merged, changed, or taken out.
func TestKeeps(t *testing.T) {
	inTrees(func(n, behind api.Node, o api.Op) {
		if o.Kind == api.InsertText || o.Kind == api.InsertNode || o.Kind == api.MoveNode {
			return
		}
		var left string
		if all := gaps(behind); len(all) > 0 {
			left = inside(behind, rg(all[0], all[len(all)-1]))
		}
		for _, r := range pairs(gaps(n)) {
			want := strings.Map(func(c rune) rune {
				if strings.ContainsRune(left, c) {
					return c
				}
				return -1
			}, inside(n, r))
			for _, aff := range affs() {
				if got, is := xrange.Move(r, o, aff); is && inside(behind, got) != want {
					t.Fatalf("%s, %d: %s has %q, not %q", what(r, o), aff, span(got), inside(behind, got), want)
				}
			}
		}
	})
}

// P10.3: where a leaf is split just at one of its ends, an inward range stays in one half, an outward one reaches into both.
func TestSplitAtEnds(t *testing.T) {
	for _, x := range []struct {
		pos, aff int
		want     api.Range
	}{
		{2, api.InwardA, rg(pt(0, 2), pt(3, 2))},
		{2, api.OutwardA, rg(pt(2, 1), pt(3, 2))},
		{5, api.InwardA, in1(2, 5)},
		{5, api.OutwardA, rg(pt(2, 1), pt(0, 2))},
	} {
		wantMove(t, in1(2, 5), split(x.pos, 1), x.aff, to(x.want))
		wantMove(t, in1(5, 2), split(x.pos, 1), x.aff, to(turned(x.want)))
	}
}
