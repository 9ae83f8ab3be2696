package xpath_test

import (
	"math"
	"testing"

	"redline/api"
)

// bad are numbers that may not be, good ones at the ends of those that may.
func bad() []int {
	return []int{math.MinInt, math.MinInt + 1, -1 << 32, -api.MaxCap, -2, -1, api.MaxCap + 1, 1 << 21, 1 << 31, 1 << 32, 1<<32 + 1, math.MaxInt - 1, math.MaxInt}
}

func good() []int { return []int{0, 1, api.MaxCap - 1, api.MaxCap} }

// P8.1: nothing is told of a path with a number that may not be, wherever it stands, whatever the operation; nor, if its Path has one, or its To, though it may be looked at by no operation of that kind.
func TestWrongPaths(t *testing.T) {
	for _, n := range bad() {
		for _, wrong := range [][]int{path(n), path(n, 1), path(1, n), path(1, 2, n), path(1, n, 3), path(2, n), path(0, 0, 0, n)} {
			for _, kind := range kinds() {
				for _, right := range [][]int{nil, path(1), path(1, 2), path(3, 0, 1)} {
					for _, pos := range good() {
						wantNothing(t, wrong, api.Op{Kind: kind, Path: right, Pos: pos})
						wantNothing(t, right, api.Op{Kind: kind, Path: wrong, Pos: pos})
						wantNothing(t, right, api.Op{Kind: kind, Path: right, To: wrong, Pos: pos})
						wantNothing(t, right, api.Op{Kind: kind, To: wrong, Pos: pos})
						wantNothing(t, wrong, api.Op{Kind: kind, Path: wrong, To: wrong, Pos: pos})
					}
				}
			}
		}
	}
}

// P8.1: nothing is told, if Pos may not be, whatever the operation.
func TestWrongPos(t *testing.T) {
	for _, n := range bad() {
		for _, kind := range kinds() {
			for _, q := range places(2, 2) {
				for _, p := range places(2, 2) {
					wantNothing(t, p, api.Op{Kind: kind, Path: q, Pos: n})
					wantNothing(t, p, api.Op{Kind: kind, Path: q, To: p, Pos: n})
				}
			}
		}
	}
}

// P8.1: nothing is told of a wrong number at the end of a path of very many.
func TestWrongDeep(t *testing.T) {
	long := great(1<<16, 1)
	for _, n := range bad() {
		wrong := append(long[:len(long):len(long)], n)
		wantNothing(t, wrong, remove(2))
		wantNothing(t, path(2), remove(wrong...))
		wantNothing(t, path(2), move(path(3), wrong))
	}
}

// P8.1: numbers at the ends of those that may be are told of, at each place.
func TestRightNumbers(t *testing.T) {
	for _, n := range good() {
		for _, m := range good() {
			for _, kind := range kinds() {
				for _, p := range [][]int{nil, path(n), path(m, n), path(1, m, n)} {
					for _, q := range [][]int{nil, path(n), path(m, n), path(1, m)} {
						for _, to := range [][]int{nil, path(n), path(1, m)} {
							for _, pos := range good() {
								o := api.Op{Kind: kind, Path: q, To: to, Pos: pos}
								want, is := told(p, o)
								wantMoves(t, []one{{o, p, want, is}})
							}
						}
					}
				}
			}
		}
	}
}

// P8.1: nil and false are told where nothing is, and just there: beside a true, a root is told by a path without numbers.
func TestNothingElse(t *testing.T) {
	wantNothing(t, path(1), remove(1))
	wantNothing(t, path(1, 5), remove(1))
	wantNothing(t, nil, merge(0, 0))
	wantNothing(t, path(-1), remove())
	wantMoves(t, []one{
		{remove(), path(1), path(1), true},
		{remove(1), nil, nil, true},
		{remove(1), path(), path(), true},
		{move(path(1), nil), path(1), nil, true},
		{api.Op{}, nil, nil, true},
	})
}
