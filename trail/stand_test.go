package trail_test

import (
	"math"
	"slices"
	"testing"

	"redline/trail"
)

// P2.2: a path is above another one that begins with it, and is longer.
func TestAbove(t *testing.T) {
	for _, x := range []struct {
		a, b []int
		want bool
	}{
		{nil, nil, false},
		{nil, path(), false},
		{nil, path(0), true},
		{nil, path(5), true},
		{nil, path(-1), true},
		{nil, path(0, 1, 2), true},
		{path(0), nil, false},
		{path(0), path(0), false},
		{path(0), path(1), false},
		{path(0), path(0, 0), true},
		{path(0), path(0, 5), true},
		{path(0), path(0, -1), true},
		{path(0), path(0, 5, 6), true},
		{path(0), path(1, 0), false},
		{path(0, 5), path(0), false},
		{path(0, 2), path(0, 3, 1), false},
		{path(0), path(0, 3, 1), true},
		{path(0, 3), path(0, 3, 1), true},
		{path(0, 3, 1), path(0, 3, 1), false},
		{path(3, 1), path(0, 3, 1), false},
		{path(1, 2), path(2, 2, 0), false},
		{path(1, 2), path(1, 3, 0), false},
		{path(-1), path(-1, 0), true},
		{path(math.MaxInt), path(math.MaxInt, 0), true},
		{path(math.MinInt), path(math.MinInt, 0), true},
		{long(1000), long(1001), true},
		{long(1001), long(1000), false},
		{with(long(1000), 999, 9), long(1001), false},
		{with(long(1000), 0, 9), long(1001), false},
	} {
		if got := trail.Above(x.a, x.b); got != x.want {
			t.Errorf("%v, %v: got %v", x.a, x.b, got)
		}
	}
}

// P2.2: Left tells of one that is beside a, further on, and b, or above b.
func TestLeft(t *testing.T) {
	for _, x := range []struct {
		a, b []int
		want bool
	}{
		{nil, nil, false},
		{nil, path(0), false},
		{nil, path(1), false},
		{nil, path(-1), false},
		{nil, path(1, 2), false},
		{path(), path(math.MaxInt), false},
		{path(0), nil, false},
		{path(-1), nil, false},
		{path(0), path(0), false},
		{path(0), path(1), true},
		{path(1), path(0), false},
		{path(0), path(5), true},
		{path(0), path(1, 5), true},
		{path(0), path(1, 0, 0), true},
		{path(0), path(0, 5), false},
		{path(1), path(0, 5), false},
		{path(0, 2), path(0, 3), true},
		{path(0, 2), path(0, 3, 1), true},
		{path(0, 2), path(0, 3, 1, 0), true},
		{path(0, 2), path(0, 2, 3), false},
		{path(0, 2), path(0, 1), false},
		{path(0, 2), path(0), false},
		{path(0, 2), path(1), false},
		{path(0, 2), path(1, 3), false},
		{path(1, 2), path(0, 3), false},
		{path(0, 1, 7), path(0, 2), false},
		{path(0, 1, 7), path(0, 2, 8), false},
		{path(0, 1, 7), path(0, 1), false},
		{path(-1), path(0), true},
		{path(-2), path(-1, 4), true},
		{path(0), path(-1), false},
		{path(math.MinInt), path(math.MaxInt), true},
		{path(math.MaxInt), path(math.MinInt), false},
		{path(math.MaxInt), path(math.MaxInt), false},
		{path(math.MaxInt - 1), path(math.MaxInt, 0), true},
		{path(math.MaxInt), path(math.MaxInt, 0), false},
		{path(math.MinInt), path(math.MinInt + 1), true},
		{with(long(1000), 999, 0), with(long(1001), 999, 1), true},
		{with(long(1000), 999, 1), with(long(1001), 999, 0), false},
		{with(long(1000), 0, 0), with(long(1000), 0, 1), false},
	} {
		if got := trail.Left(x.a, x.b); got != x.want {
			t.Errorf("%v, %v: got %v", x.a, x.b, got)
		}
	}
}

// above is what the chapter's words say: b begins with a, and is longer.
func above(a, b []int) bool {
	return len(b) > len(a) && equal(b[:len(a)], a)
}

// left looks for the path that the chapter speaks of, among those that it could be: only a number of b's can be its last one.
func left(a, b []int) bool {
	if len(a) == 0 {
		return false
	}
	last := len(a) - 1
	for _, n := range b {
		other := with(a, last, n)
		if n > a[last] && (equal(other, b) || above(other, b)) {
			return true
		}
	}
	return false
}

// P2.2: of all small paths, and of those with numbers at the ends.
func TestStandAll(t *testing.T) {
	for _, all := range [][][]int{small(), edges()} {
		for _, a := range all {
			for _, b := range all {
				if got, want := trail.Above(a, b), above(a, b); got != want {
					t.Fatalf("above: %v, %v: got %v", a, b, got)
				}
				if got, want := trail.Left(a, b), left(a, b); got != want {
					t.Fatalf("left: %v, %v: got %v", a, b, got)
				}
			}
		}
	}
}

// R2: what is only looked at stays as it was, also what lies behind its end.
func TestLookedAtOnly(t *testing.T) {
	for _, x := range []struct{ a, b []int }{
		{path(0, 2), path(0, 3, 1)},
		{path(0), path(0, 1)},
		{path(-1, 5), path(-1, 5)},
		{nil, path(2)},
		{path(4, 1), nil},
	} {
		a, room1 := roomy(x.a)
		b, room2 := roomy(x.b)
		trail.Check(a)
		trail.Compare(a, b)
		trail.Same(a, b)
		trail.Above(a, b)
		trail.Left(a, b)
		if !equal(a, x.a) || !equal(b, x.b) {
			t.Errorf("an argument was changed: %v, %v", a, b)
		}
		wantUntouched(t, slices.Concat(room1, room2))
	}
}
