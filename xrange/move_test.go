package xrange_test

import (
	"testing"

	"redline/api"
)

// P10.1: a text that is put in, at each place of a range in one leaf: just at the start and just at the end the affinity decides.
func TestInsertText(t *testing.T) {
	wantMoves(t, []one{
		each(put(1, 2, 1), in1(2, 5), to(in1(4, 7))),
		{put(2, 2, 1), in1(2, 5), to(in1(2, 7)), to(in1(4, 7)), to(in1(2, 7)), to(in1(4, 7)), to(in1(2, 7))},
		each(put(3, 2, 1), in1(2, 5), to(in1(2, 7))),
		{put(5, 2, 1), in1(2, 5), to(in1(2, 5)), to(in1(2, 7)), to(in1(2, 5)), to(in1(2, 5)), to(in1(2, 7))},
		stays(put(6, 2, 1), in1(2, 5)),
		stays(put(2, 0, 1), in1(2, 5)),
		stays(put(5, 0, 1), in1(2, 5)),
		// At the ends of a leaf.
		{put(0, 3, 1), in1(0, 1), to(in1(0, 4)), to(in1(3, 4)), to(in1(0, 4)), to(in1(3, 4)), to(in1(0, 4))},
		{put(1, 3, 1), in1(0, 1), to(in1(0, 1)), to(in1(0, 4)), to(in1(0, 1)), to(in1(0, 1)), to(in1(0, 4))},
	})
}

// P10.1: of a range whose points are the same both go along inward, and Anchor is the start outward.
func TestSamePoints(t *testing.T) {
	wantMoves(t, []one{
		{put(3, 2, 1), in1(3, 3), to(in1(3, 3)), to(in1(5, 5)), to(in1(3, 3)), to(in1(5, 5)), to(in1(3, 5))},
		{put(0, 1, 1), in1(0, 0), to(in1(0, 0)), to(in1(1, 1)), to(in1(0, 0)), to(in1(1, 1)), to(in1(0, 1))},
		{put(3, 2), rg(pt(3), pt(3)), to(rg(pt(3), pt(3))), to(rg(pt(5), pt(5))), to(rg(pt(3), pt(3))), to(rg(pt(5), pt(5))), to(rg(pt(3), pt(5)))},
		{split(3, 1), in1(3, 3), gone(), to(rg(pt(0, 2), pt(0, 2))), to(in1(3, 3)), to(rg(pt(0, 2), pt(0, 2))), to(rg(pt(3, 1), pt(0, 2)))},
		each(put(2, 2, 1), in1(3, 3), to(in1(5, 5))),
		stays(put(4, 2, 1), in1(3, 3)),
		each(split(2, 1), in1(3, 3), to(rg(pt(1, 2), pt(1, 2)))),
		stays(split(4, 1), in1(3, 3)),
		each(take(1, 9, 1), in1(3, 3), to(in1(1, 1))),
		each(merge(4, 1), in1(3, 3), to(rg(pt(7, 0), pt(7, 0)))),
		each(insert(1), in1(3, 3), to(rg(pt(3, 2), pt(3, 2)))),
		each(remove(1), in1(3, 3), gone()),
		each(remove(0), in1(3, 3), to(rg(pt(3, 0), pt(3, 0)))),
		each(move(path(1), path(4, 2)), in1(3, 3), to(rg(pt(3, 4, 2), pt(3, 4, 2)))),
		stays(set(1), in1(3, 3)),
	})
}

// P10.1: the start is the point of the earlier leaf, whatever the Offs are.
func TestStart(t *testing.T) {
	wantMoves(t, []one{
		{put(3, 2, 1), rg(pt(3, 1), pt(3, 2)), to(rg(pt(3, 1), pt(3, 2))), to(rg(pt(5, 1), pt(3, 2))), to(rg(pt(3, 1), pt(3, 2))), to(rg(pt(5, 1), pt(3, 2))), to(rg(pt(3, 1), pt(3, 2)))},
		{put(3, 2, 2), rg(pt(3, 1), pt(3, 2)), to(rg(pt(3, 1), pt(3, 2))), to(rg(pt(3, 1), pt(5, 2))), to(rg(pt(3, 1), pt(3, 2))), to(rg(pt(3, 1), pt(3, 2))), to(rg(pt(3, 1), pt(5, 2)))},
		// An Off that is greater, in the earlier leaf.
		{put(9, 2, 1), rg(pt(9, 1), pt(0, 2)), to(rg(pt(9, 1), pt(0, 2))), to(rg(pt(11, 1), pt(0, 2))), to(rg(pt(9, 1), pt(0, 2))), to(rg(pt(11, 1), pt(0, 2))), to(rg(pt(9, 1), pt(0, 2)))},
		{put(0, 2, 1, 0), rg(pt(7, 0, 8), pt(0, 1, 0)), to(rg(pt(7, 0, 8), pt(0, 1, 0))), to(rg(pt(7, 0, 8), pt(2, 1, 0))), to(rg(pt(7, 0, 8), pt(0, 1, 0))), to(rg(pt(7, 0, 8), pt(0, 1, 0))), to(rg(pt(7, 0, 8), pt(2, 1, 0)))},
		// A path that the other one begins with is the earlier one.
		{put(3, 2, 1), rg(pt(3, 1), pt(0, 1, 0)), to(rg(pt(3, 1), pt(0, 1, 0))), to(rg(pt(5, 1), pt(0, 1, 0))), to(rg(pt(3, 1), pt(0, 1, 0))), to(rg(pt(5, 1), pt(0, 1, 0))), to(rg(pt(3, 1), pt(0, 1, 0)))},
	})
}

// P10.1: a text that is taken out, at each place of a range in one leaf.
func TestRemoveText(t *testing.T) {
	wantMoves(t, []one{
		each(take(0, 1, 1), in1(2, 5), to(in1(1, 4))),
		each(take(0, 2, 1), in1(2, 5), to(in1(0, 3))),
		each(take(0, 3, 1), in1(2, 5), to(in1(0, 2))),
		each(take(0, 5, 1), in1(2, 5), to(in1(0, 0))),
		each(take(0, 9, 1), in1(2, 5), to(in1(0, 0))),
		each(take(1, 2, 1), in1(2, 5), to(in1(1, 3))),
		each(take(2, 2, 1), in1(2, 5), to(in1(2, 3))),
		each(take(2, 3, 1), in1(2, 5), to(in1(2, 2))),
		each(take(3, 1, 1), in1(2, 5), to(in1(2, 4))),
		each(take(4, 5, 1), in1(2, 5), to(in1(2, 4))),
		stays(take(5, 2, 1), in1(2, 5)),
		stays(take(9, 2, 1), in1(2, 5)),
		stays(take(2, 0, 1), in1(2, 5)),
	})
}

// P10.1: a leaf that is split, at each place of a range in it: of one a point of which stands just there nothing is told without an affinity.
func TestSplit(t *testing.T) {
	wantMoves(t, []one{
		each(split(1, 1), in1(2, 5), to(rg(pt(1, 2), pt(4, 2)))),
		{split(2, 1), in1(2, 5), gone(), to(rg(pt(0, 2), pt(3, 2))), to(rg(pt(2, 1), pt(3, 2))), to(rg(pt(0, 2), pt(3, 2))), to(rg(pt(2, 1), pt(3, 2)))},
		each(split(3, 1), in1(2, 5), to(rg(pt(2, 1), pt(2, 2)))),
		{split(5, 1), in1(2, 5), gone(), to(rg(pt(2, 1), pt(0, 2))), to(in1(2, 5)), to(in1(2, 5)), to(rg(pt(2, 1), pt(0, 2)))},
		stays(split(6, 1), in1(2, 5)),
	})
}

// apart2 is a range whose points stand in leaves of two elements.
func apart2() api.Range { return rg(pt(2, 1, 1), pt(3, 2, 0)) }

// P10.1: each kind of operation at the path of the start alone.
func TestAtStart(t *testing.T) {
	wantMoves(t, []one{
		each(put(1, 2, 1, 1), apart2(), to(rg(pt(4, 1, 1), pt(3, 2, 0)))),
		{put(2, 2, 1, 1), apart2(), to(apart2()), to(rg(pt(4, 1, 1), pt(3, 2, 0))), to(apart2()), to(rg(pt(4, 1, 1), pt(3, 2, 0))), to(apart2())},
		stays(put(3, 2, 1, 1), apart2()),
		each(take(0, 1, 1, 1), apart2(), to(rg(pt(1, 1, 1), pt(3, 2, 0)))),
		each(insert(1, 1), apart2(), to(rg(pt(2, 1, 2), pt(3, 2, 0)))),
		each(remove(1, 1), apart2(), gone()),
		each(merge(4, 1, 1), apart2(), to(rg(pt(6, 1, 0), pt(3, 2, 0)))),
		each(split(1, 1, 1), apart2(), to(rg(pt(1, 1, 2), pt(3, 2, 0)))),
		{split(2, 1, 1), apart2(), gone(), to(rg(pt(0, 1, 2), pt(3, 2, 0))), to(apart2()), to(rg(pt(0, 1, 2), pt(3, 2, 0))), to(apart2())},
		stays(split(3, 1, 1), apart2()),
		each(move(path(1, 1), path(0)), apart2(), to(rg(pt(2, 0), pt(3, 3, 0)))),
		// It goes past the end.
		each(move(path(1, 1), path(2, 1)), apart2(), to(rg(pt(2, 2, 1), pt(3, 2, 0)))),
		stays(set(1, 1), apart2()),
	})
}

// P10.1: each kind of operation at the path of the end alone.
func TestAtEnd(t *testing.T) {
	wantMoves(t, []one{
		each(put(1, 2, 2, 0), apart2(), to(rg(pt(2, 1, 1), pt(5, 2, 0)))),
		{put(3, 2, 2, 0), apart2(), to(apart2()), to(rg(pt(2, 1, 1), pt(5, 2, 0))), to(apart2()), to(apart2()), to(rg(pt(2, 1, 1), pt(5, 2, 0)))},
		stays(put(4, 2, 2, 0), apart2()),
		each(take(0, 1, 2, 0), apart2(), to(rg(pt(2, 1, 1), pt(2, 2, 0)))),
		each(insert(2, 0), apart2(), to(rg(pt(2, 1, 1), pt(3, 2, 1)))),
		each(remove(2, 0), apart2(), gone()),
		// Its parent's first Kid has none ahead of it to be merged into.
		each(merge(4, 2, 0), apart2(), gone()),
		each(split(1, 2, 0), apart2(), to(rg(pt(2, 1, 1), pt(2, 2, 1)))),
		{split(3, 2, 0), apart2(), gone(), to(rg(pt(2, 1, 1), pt(0, 2, 1))), to(apart2()), to(apart2()), to(rg(pt(2, 1, 1), pt(0, 2, 1)))},
		stays(split(4, 2, 0), apart2()),
		each(move(path(2, 0), path(1, 0)), apart2(), to(rg(pt(2, 1, 2), pt(3, 1, 0)))),
		stays(set(2, 0), apart2()),
	})
}

// P10.1: each kind of operation at the path of both points; of texts and splits there are tests of their own.
func TestAtBoth(t *testing.T) {
	wantMoves(t, []one{
		each(insert(1), in1(2, 5), to(rg(pt(2, 2), pt(5, 2)))),
		each(remove(1), in1(2, 5), gone()),
		each(merge(4, 1), in1(2, 5), to(rg(pt(6, 0), pt(9, 0)))),
		each(move(path(1), path(0)), in1(2, 5), to(rg(pt(2, 0), pt(5, 0)))),
		each(move(path(1), nil), in1(2, 5), to(rg(pt(2), pt(5)))),
		stays(set(1), in1(2, 5)),
		stays(api.Op{Kind: api.SetSel}, in1(2, 5)),
		stays(api.Op{Kind: api.SetSel, Path: path(1), Pos: 3, Text: []rune("ab")}, in1(2, 5)),
	})
}

// P10.1: each kind of operation above one point, or above both.
func TestAbove(t *testing.T) {
	under := rg(pt(2, 1, 1), pt(3, 1, 4))
	wantMoves(t, []one{
		each(insert(1), apart2(), to(rg(pt(2, 2, 1), pt(3, 3, 0)))),
		each(insert(2), apart2(), to(rg(pt(2, 1, 1), pt(3, 3, 0)))),
		each(remove(1), apart2(), gone()),
		each(remove(2), apart2(), gone()),
		each(merge(3, 2), apart2(), to(rg(pt(2, 1, 1), pt(3, 1, 3)))),
		each(merge(3, 1), apart2(), to(rg(pt(2, 0, 4), pt(3, 1, 0)))),
		each(split(1, 1), apart2(), to(rg(pt(2, 2, 0), pt(3, 3, 0)))),
		each(split(2, 1), apart2(), to(rg(pt(2, 1, 1), pt(3, 3, 0)))),
		each(split(0, 2), apart2(), to(rg(pt(2, 1, 1), pt(3, 3, 0)))),
		each(move(path(1), path(5)), apart2(), to(rg(pt(2, 5, 1), pt(3, 1, 0)))),
		each(put(2, 2, 1), apart2(), to(apart2())),
		each(take(0, 2, 2), apart2(), to(apart2())),
		stays(set(1), apart2()),
		// Above both.
		each(insert(1), under, to(rg(pt(2, 2, 1), pt(3, 2, 4)))),
		each(remove(1), under, gone()),
		each(merge(3, 1), under, to(rg(pt(2, 0, 4), pt(3, 0, 7)))),
		each(split(1, 1), under, to(rg(pt(2, 2, 0), pt(3, 2, 3)))),
		each(split(2, 1), under, to(rg(pt(2, 1, 1), pt(3, 2, 2)))),
		each(split(3, 1), under, to(rg(pt(2, 1, 1), pt(3, 2, 1)))),
		stays(split(5, 1), under),
		each(move(path(1), path(0, 7)), under, to(rg(pt(2, 0, 7, 1), pt(3, 0, 7, 4)))),
		stays(set(1), under),
	})
}

// P10.1: each kind of operation to the left of both points, between them, to the right, and below.
func TestBeside(t *testing.T) {
	r := rg(pt(2, 1), pt(3, 3))
	wantMoves(t, []one{
		each(insert(0), r, to(rg(pt(2, 2), pt(3, 4)))),
		each(remove(0), r, to(rg(pt(2, 0), pt(3, 2)))),
		each(split(2, 0), r, to(rg(pt(2, 2), pt(3, 4)))),
		each(move(path(0), path(9)), r, to(rg(pt(2, 0), pt(3, 2)))),
		stays(put(2, 2, 0), r),
		stays(take(0, 2, 0), r),
		// Between them.
		each(insert(2), r, to(rg(pt(2, 1), pt(3, 4)))),
		each(remove(2), r, to(rg(pt(2, 1), pt(3, 2)))),
		each(merge(2, 2), r, to(rg(pt(2, 1), pt(3, 2)))),
		each(split(2, 2), r, to(rg(pt(2, 1), pt(3, 4)))),
		each(move(path(2), path(0)), r, to(rg(pt(2, 2), pt(3, 3)))),
		stays(put(2, 2, 2), r),
		stays(take(0, 2, 2), r),
		// To the right.
		stays(insert(4), r),
		stays(remove(4), r),
		stays(merge(2, 4), r),
		stays(split(2, 4), r),
		each(move(path(4), path(1)), r, to(rg(pt(2, 2), pt(3, 4)))),
		stays(put(2, 2, 4), r),
		// Below.
		stays(insert(1, 0), r),
		stays(remove(3, 0), r),
		stays(split(2, 1, 2), r),
		stays(put(2, 2, 1, 0), r),
	})
}

// P10.1: with both points gone, and with one of them gone, either one, nothing is told.
func TestGone(t *testing.T) {
	for _, aff := range affs() {
		for _, other := range []api.Point{pt(2, 0), pt(2, 1), pt(2, 1, 0), pt(0, 2), pt(0)} {
			wantNothing(t, rg(pt(2, 1), other), remove(1), aff)
			wantNothing(t, rg(pt(2, 1, 5), other), remove(1), aff)
			wantNothing(t, rg(pt(2, 0, 3, 1), other), remove(0, 3), aff)
			wantNothing(t, rg(pt(2, 1), other), merge(2, 0), aff)
		}
	}
	for _, other := range []api.Point{pt(2, 0), pt(2, 1), pt(5, 1), pt(0, 2)} {
		wantNothing(t, rg(pt(3, 1), other), split(3, 1), api.NoneA)
	}
}

// P10.1: ranges in a root that is a leaf.
func TestAtRoot(t *testing.T) {
	for _, q := range [][]int{nil, path(), path(1, 2)[:0]} {
		r := rg(pt(2, q...), pt(5, q...))
		wantMoves(t, []one{
			{put(2, 2, q...), r, to(rg(pt(2), pt(7))), to(rg(pt(4), pt(7))), to(rg(pt(2), pt(7))), to(rg(pt(4), pt(7))), to(rg(pt(2), pt(7)))},
			{put(5, 2, q...), r, to(rg(pt(2), pt(5))), to(rg(pt(2), pt(7))), to(rg(pt(2), pt(5))), to(rg(pt(2), pt(5))), to(rg(pt(2), pt(7)))},
			each(take(3, 9, q...), r, to(rg(pt(2), pt(3)))),
			stays(split(2, q...), r),
			stays(merge(2, q...), r),
			stays(remove(q...), r),
			stays(insert(q...), r),
		})
	}
}

// P10.1: Offs and Pos may be 0 and MaxCap; what is told may be greater.
func TestEnds(t *testing.T) {
	const top = api.MaxCap
	wantMoves(t, []one{
		{put(top, 2, 1), in1(0, top), to(in1(0, top)), to(in1(0, top+2)), to(in1(0, top)), to(in1(0, top)), to(in1(0, top+2))},
		{put(0, 2, 1), in1(0, top), to(in1(0, top+2)), to(in1(2, top+2)), to(in1(0, top+2)), to(in1(2, top+2)), to(in1(0, top+2))},
		each(take(0, top, 1), in1(0, top), to(in1(0, 0))),
		each(merge(top, 1), in1(0, top), to(rg(pt(top, 0), pt(2*top, 0)))),
		{split(top, top), rg(pt(0, top), pt(top, top)), gone(), to(rg(pt(0, top), pt(0, top+1))), to(rg(pt(0, top), pt(top, top))), to(rg(pt(0, top), pt(top, top))), to(rg(pt(0, top), pt(0, top+1)))},
	})
}
