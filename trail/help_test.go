package trail_test

import (
	"math"
	"slices"
	"testing"
)

// path makes a path of numbers.
func path(l ...int) []int { return l }

// equal stands here so that the other calls' tests do not hang on Same.
func equal(a, b []int) bool {
	return slices.Equal(a, b)
}

// small tells all paths of at most three numbers, each among a few that stand for all.
func small() [][]int {
	out := [][]int{nil}
	for first, size := 0, 1; size <= 3; size++ {
		end := len(out)
		for _, p := range out[first:end] {
			for _, n := range []int{-1, 0, 1, 2} {
				out = append(out, slices.Concat(p, path(n)))
			}
		}
		first = end
	}
	return out
}

// edges tells paths whose numbers lie at the ends of what an int can be.
func edges() [][]int {
	ends := []int{math.MinInt, math.MinInt + 1, -1, 0, 1, math.MaxInt - 1, math.MaxInt}
	out := [][]int{nil}
	for _, n := range ends {
		out = append(out, path(n), path(0, n))
		for _, m := range ends {
			out = append(out, path(n, m))
		}
	}
	return out
}

// roomy is a copy of p with room behind it, and what stands in that room, to see whether anybody writes there.
func roomy(p []int) (list, room []int) {
	all := make([]int, len(p)+8)
	copy(all, p)
	for i := len(p); i < len(all); i++ {
		all[i] = 77
	}
	return all[:len(p)], all[len(p):]
}

func wantUntouched(t *testing.T, room []int) {
	t.Helper()
	for _, n := range room {
		if n != 77 {
			t.Errorf("written behind an argument's end: %v", room)
		}
	}
}

// spoil writes all over a list, also behind its end, as far as it has room.
func spoil(p []int) {
	p = p[:cap(p)]
	for i := range p {
		p[i] = -99
	}
}

// long makes a path of many numbers.
func long(many int) []int {
	p := make([]int, many)
	for i := range p {
		p[i] = i % 7
	}
	return p
}

// with is p, with a number in the place of one that it has.
func with(p []int, at, n int) []int {
	out := slices.Clone(p)
	out[at] = n
	return out
}
