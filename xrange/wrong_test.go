package xrange_test

import (
	"math"
	"testing"

	"redline/api"
)

// bad are numbers that may not be.
func bad() []int {
	return []int{math.MinInt, math.MinInt + 1, -1 << 32, -api.MaxCap, -2, -1, api.MaxCap + 1, 1 << 21, 1 << 31, 1 << 32, 1<<32 + 1, math.MaxInt - 1, math.MaxInt}
}

// some are operations of all kinds, and of kinds that there are none of, at a path, elsewhere, and at the root.
func some(p []int) []api.Op {
	var out []api.Op
	for _, kind := range append(nine(), strange()...) {
		for _, q := range [][]int{nil, p, path(0), path(3, 1)} {
			for _, pos := range []int{0, 3} {
				out = append(out, api.Op{Kind: kind, Path: q, To: path(2), Pos: pos, Text: []rune("ab")})
			}
		}
	}
	return out
}

// ranges are ranges that may be: of one point twice, in one leaf, in two.
func ranges() []api.Range {
	return []api.Range{{}, in1(3, 3), in1(0, 3), rg(pt(3, 1), pt(0, 2)), rg(pt(api.MaxCap, 0, 2), pt(0, 3, 1))}
}

// P10.1: nothing is told with an affinity that is none of a range, whatever the operation.
func TestWrongAffinities(t *testing.T) {
	for _, aff := range unfit() {
		for _, r := range ranges() {
			for _, o := range some(r.Anchor.Path) {
				wantNothing(t, r, o, aff)
			}
		}
	}
}

// P10.1: nothing is told of a range with an Off that may not be, either point's or both, whatever the operation.
func TestWrongOffs(t *testing.T) {
	for _, off := range bad() {
		for _, r := range ranges() {
			for _, o := range some(r.Anchor.Path) {
				for _, aff := range affs() {
					wrong := pt(off, r.Anchor.Path...)
					wantNothing(t, rg(wrong, r.Focus), o, aff)
					wantNothing(t, rg(wrong, wrong), o, aff)
				}
			}
		}
	}
}

// P10.1: nothing is told, where a number of a point's Path, or of the operation's Path, or To, or its Pos may not be.
func TestWrongNumbers(t *testing.T) {
	for _, n := range bad() {
		for _, wrong := range [][]int{path(n), path(n, 1), path(1, n), path(1, 2, n)} {
			for _, r := range ranges() {
				for _, o := range some(r.Anchor.Path) {
					ways := []api.Op{o, o, o}
					ways[0].Path, ways[1].To, ways[2].Pos = wrong, wrong, n
					for _, aff := range affs() {
						wantNothing(t, rg(pt(0, wrong...), r.Focus), o, aff)
						for _, o := range ways {
							wantNothing(t, r, o, aff)
						}
					}
				}
			}
		}
	}
}

// P10.1: kinds that there are none of move nothing, as those that put nothing in and take nothing out.
func TestOtherKinds(t *testing.T) {
	for _, kind := range append(strange(), api.SetNode, api.SetSel) {
		for _, r := range pairs(spread(2, 1, 3)) {
			for _, q := range places(2, 1) {
				for pos := range 3 {
					wantMoves(t, []one{stays(api.Op{Kind: kind, Path: q, To: path(0), Pos: pos, Text: []rune("ab")}, r)})
				}
			}
		}
	}
}

// P10.1: a range that is zero goes somewhere, too.
func TestZeroRange(t *testing.T) {
	zero := api.Range{}
	wantMoves(t, []one{
		stays(api.Op{}, zero),
		{put(0, 2), zero, to(zero), to(rg(pt(2), pt(2))), to(zero), to(rg(pt(2), pt(2))), to(rg(pt(0), pt(2)))},
		stays(take(0, 2), zero),
		stays(remove(0), zero),
		each(merge(0, 0), zero, gone()),
	})
}

// P10.2: of a selection's point of which nothing is told, as its Off, or a number, may not be, the point beside the operation's Path stands in its place.
func TestSelWrong(t *testing.T) {
	n := elem(leaf("ab"), leaf("cde"))
	for _, x := range bad() {
		wantSels(t, []selOne{
			{n, sel(pt(x, 1), pt(0, 1)), insert(1), sel(pt(2, 0), pt(0, 2))},
			{n, sel(pt(x, 1), pt(x, 1)), insert(0), sel(pt(0, 0), pt(0, 0))},
			{n, sel(pt(0, x), pt(1, 1)), remove(2), sel(pt(3, 1), pt(1, 1))},
			{n, sel(pt(0, 1, x), pt(1, 1)), set(), sel(pt(0, 0), pt(1, 1))},
			{n, sel(pt(0, 0), pt(1, 1)), insert(1, x), sel(pt(2, 0), pt(2, 0))},
			{n, sel(pt(0, 0), pt(1, 1)), move(path(1), path(x)), sel(pt(2, 0), pt(2, 0))},
			{n, sel(pt(0, 0), pt(1, 1)), put(x, 2, 1), sel(pt(2, 0), pt(2, 0))},
			{elem(), sel(pt(x, 1), pt(0, 1)), insert(1), api.Sel{}},
			{elem(), sel(pt(0, 0), pt(1, 1)), put(x, 2, 1), api.Sel{}},
		})
	}
	// With a path whose first number may not be, all of the tree stands behind it, or ahead of it.
	wantSels(t, []selOne{
		{n, sel(pt(0, 0), pt(1, 1)), insert(-1), sel(pt(0, 0), pt(0, 0))},
		{n, sel(pt(0, 0), pt(1, 1)), insert(math.MinInt), sel(pt(0, 0), pt(0, 0))},
		{n, sel(pt(0, 0), pt(1, 1)), insert(math.MaxInt), sel(pt(3, 1), pt(3, 1))},
	})
	// Points that may be, but are none of the tree, go as others do.
	wantSels(t, []selOne{
		{n, sel(pt(99, 1), pt(4, 7, 8)), insert(0), sel(pt(99, 2), pt(4, 8, 8))},
		{n, sel(pt(0), pt(5, 0, 3)), put(0, 2), sel(pt(2), pt(5, 0, 3))},
	})
	for _, kind := range strange() {
		s := sel(pt(1, 0), pt(2, 1))
		wantSels(t, []selOne{{n, s, api.Op{Kind: kind, Path: path(0), Pos: 1, Text: []rune("ab")}, s}})
	}
}
