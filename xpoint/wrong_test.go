package xpoint_test

import (
	"math"
	"slices"
	"testing"

	"redline/api"
)

// bad are numbers that may not be, good ones at the ends of those that may.
func bad() []int {
	return []int{math.MinInt, math.MinInt + 1, -1 << 32, -api.MaxCap, -2, -1, api.MaxCap + 1, 1 << 21, 1 << 31, 1 << 32, 1<<32 + 1, math.MaxInt - 1, math.MaxInt}
}

func good() []int { return []int{0, 1, api.MaxCap - 1, api.MaxCap} }

// some are operations of all kinds, and of kinds that there are none of, at the point's path, elsewhere, and at the root.
func some(p []int) []api.Op {
	var out []api.Op
	for _, kind := range append(nine(), strange()...) {
		for _, q := range [][]int{nil, p, path(0), path(1), path(3, 1)} {
			for _, pos := range []int{0, 3, 4} {
				out = append(out, api.Op{Kind: kind, Path: q, To: path(2), Pos: pos, Text: []rune("ab")})
			}
		}
	}
	return out
}

// points are points that may be.
func points() []api.Point {
	return []api.Point{pt(3), pt(3, 1), pt(0, 1, 2), pt(api.MaxCap, 3, 1)}
}

// P9.1: nothing is told with an affinity that is none of a point, whatever the operation, those of ranges among them.
func TestWrongAffinities(t *testing.T) {
	for _, aff := range []int{math.MinInt, -1 << 32, -3, -2, -1, api.InwardA, api.OutwardA, 5, 256, 257, 1 << 32, 1<<32 + 1, math.MaxInt} {
		for _, p := range points() {
			for _, o := range some(p.Path) {
				wantNothing(t, p, o, aff)
			}
		}
	}
}

// P9.1: nothing is told of a point with an Off that may not be, whatever the operation.
func TestWrongOffs(t *testing.T) {
	for _, off := range bad() {
		for _, p := range points() {
			for _, o := range some(p.Path) {
				for _, aff := range affs() {
					wantNothing(t, pt(off, p.Path...), o, aff)
				}
			}
		}
	}
}

// P9.1: nothing is told, where a number of the point's Path, or of the operation's Path, or To, or its Pos may not be.
func TestWrongNumbers(t *testing.T) {
	for _, n := range bad() {
		for _, wrong := range [][]int{path(n), path(n, 1), path(1, n), path(1, n, 3), path(1, 2, n)} {
			for _, p := range points() {
				for _, o := range some(wrong) {
					wantMoves(t, []one{each(o, pt(p.Off, wrong...), gone())})
				}
				for _, o := range some(p.Path) {
					ways := []api.Op{o, o, o}
					ways[0].Path, ways[1].To, ways[2].Pos = wrong, wrong, n
					for _, o := range ways {
						wantMoves(t, []one{each(o, p, gone())})
					}
				}
			}
		}
	}
}

// P9.1: numbers at the ends of those that may be are told of, at each place.
func TestRightNumbers(t *testing.T) {
	for _, kind := range append(nine(), strange()...) {
		for _, n := range good() {
			for _, p := range [][]int{nil, path(n), path(1, n)} {
				for _, q := range [][]int{nil, path(n), path(1, n), path(1)} {
					for _, pos := range good() {
						for _, off := range good() {
							wantByWords(t, pt(off, p...), api.Op{Kind: kind, Path: q, To: path(n), Pos: pos, Text: []rune("ab")})
						}
					}
				}
			}
		}
	}
}

// P9.1: kinds that there are none of move nothing, as those that put nothing in and take nothing out.
func TestOtherKinds(t *testing.T) {
	for _, kind := range append(strange(), api.SetNode, api.SetSel) {
		for _, p := range places(2, 2) {
			for _, q := range places(2, 2) {
				for pos := range 5 {
					wantMoves(t, []one{stays(api.Op{Kind: kind, Path: q, To: path(0), Pos: pos, Text: []rune("ab")}, pt(3, p...))})
				}
			}
		}
	}
}

// P9.1: a point that is zero and false are told where nothing is, and just there: the point that is zero goes somewhere, too.
func TestNothingElse(t *testing.T) {
	zero := api.Point{}
	for _, o := range some(nil) {
		if len(o.Path) == 0 && !slices.Contains([]int{api.InsertText, api.RemoveText}, o.Kind) {
			wantMoves(t, []one{stays(o, zero)})
		}
	}
	wantMoves(t, []one{
		stays(api.Op{}, zero),
		{put(0, 2), zero, at(0), at(2), at(0)},
		stays(take(0, 2), zero),
		stays(remove(0), zero),
		stays(split(0), zero),
		{split(0, 0), pt(0, 0), gone(), at(0, 1), at(0, 0)},
		each(merge(0, 0), zero, gone()),
		each(remove(0), pt(0, 0), gone()),
		each(move(path(0), nil), pt(0, 0), answer{zero, true}),
	})
}
