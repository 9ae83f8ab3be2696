package xpoint_test

import (
	"cmp"
	"slices"
	"testing"

	"redline/api"
	"redline/xpoint"
)

// compare stands here so that the tests hang on no other layer's Compare.
func compare(a, b api.Point) int {
	return cmp.Or(slices.Compare(a.Path, b.Path), cmp.Compare(a.Off, b.Off))
}

// spread tells small points of all small paths, in order.
func spread() []api.Point {
	var out []api.Point
	for _, p := range places(2, 2) {
		for off := range 4 {
			out = append(out, pt(off, p...))
		}
	}
	slices.SortFunc(out, compare)
	return out
}

// wantOrder looks that points in order are in order behind an operation, all of one affinity; those of which nothing is told are left out.
func wantOrder(t *testing.T, all []api.Point, o api.Op) {
	t.Helper()
	for _, aff := range affs() {
		var last *api.Point
		for _, p := range all {
			got, is := xpoint.Move(p, o, aff)
			if !is {
				continue
			}
			if last != nil && compare(*last, got) > 0 {
				t.Fatalf("%s, %d: it stands behind %s, ahead of which it stood", what(p, o), aff, spot(*last))
			}
			last = &got
		}
	}
}

// P9.2: whatever text or node is put in or taken out, what stands ahead of another point does not stand behind it then.
func TestOrderStays(t *testing.T) {
	all := spread()
	for _, q := range places(3, 2) {
		wantOrder(t, all, insert(q...))
		wantOrder(t, all, remove(q...))
		for pos := range 5 {
			for many := range 5 {
				wantOrder(t, all, put(pos, many, q...))
				wantOrder(t, all, take(pos, many, q...))
			}
		}
	}
}

// P9.2: nor at the ends of what may be.
func TestOrderStaysAtEnds(t *testing.T) {
	const top = api.MaxCap
	all := []api.Point{pt(0, 1), pt(1, 1), pt(2, 1), pt(top-1, 1), pt(top, 1), pt(0, top), pt(top, top), pt(0, top, top), pt(top, top, top)}
	for _, q := range [][]int{path(1), path(top), path(top, top)} {
		wantOrder(t, all, insert(q...))
		wantOrder(t, all, remove(q...))
		for _, pos := range good() {
			for _, many := range []int{0, 1, 2, top} {
				wantOrder(t, all, put(pos, many, q...))
				wantOrder(t, all, take(pos, many, q...))
			}
		}
	}
}

// wantBack looks that a point goes somewhere by an operation, and from there back by another one.
func wantBack(t *testing.T, p api.Point, there, back api.Op, aff int) {
	t.Helper()
	got, is := xpoint.Move(p, there, aff)
	if !is {
		t.Fatalf("%s, %d: nothing is told", what(p, there), aff)
	}
	wantMove(t, got, back, aff, answer{p, true})
}

// P9.2: what an InsertText moved a RemoveText of the same text at the same place moves back.
func TestTextBack(t *testing.T) {
	for _, p := range spread() {
		for _, q := range places(2, 2) {
			for pos := range 5 {
				for many := range 4 {
					for _, aff := range affs() {
						wantBack(t, p, put(pos, many, q...), take(pos, many, q...), aff)
					}
				}
			}
		}
	}
	// As far as an Off may be, and no further.
	const top = api.MaxCap
	for _, aff := range affs() {
		for _, pos := range []int{0, 1, top - 3, top - 2} {
			wantBack(t, pt(top-2, 1), put(pos, 2, 1), take(pos, 2, 1), aff)
			wantBack(t, pt(0, 1), put(pos, top, 1), take(pos, top, 1), aff)
		}
		wantMove(t, pt(top, 1), put(0, 2, 1), aff, at(top+2, 1))
		wantNothing(t, pt(top+2, 1), take(0, 2, 1), aff)
	}
}

// P9.1: a SplitNode and a MergeNode behind it, with what stayed ahead, move back whatever the split tells of.
func TestSplitBack(t *testing.T) {
	for _, p := range spread() {
		for _, q := range places(2, 2)[1:] {
			behind := with(q, len(q)-1, q[len(q)-1]+1)
			for pos := range 5 {
				wantBack(t, p, split(pos, q...), merge(pos, behind...), api.ForwardA)
				wantBack(t, p, split(pos, q...), merge(pos, behind...), api.BackwardA)
				if pos != p.Off || !slices.Equal(p.Path, q) {
					wantBack(t, p, split(pos, q...), merge(pos, behind...), api.NoneA)
				}
			}
		}
	}
}

// P9.1: behind an operation a forward point stands nowhere ahead of a backward one, and of one without an affinity what a backward one tells is told, if anything is.
func TestAffinitiesOrder(t *testing.T) {
	for _, p := range spread() {
		for _, q := range places(2, 2) {
			for _, kind := range nine() {
				for pos := range 5 {
					o := api.Op{Kind: kind, Path: q, To: path(1), Pos: pos, Text: []rune("ab")}
					f, is := xpoint.Move(p, o, api.ForwardA)
					b, too := xpoint.Move(p, o, api.BackwardA)
					n, told := xpoint.Move(p, o, api.NoneA)
					if is != too || compare(b, f) > 0 || told && (!is || !alike(n, b)) {
						t.Fatalf("%s: got %s, %s, %s", what(p, o), spot(n), spot(f), spot(b))
					}
				}
			}
		}
	}
}
