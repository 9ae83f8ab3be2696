package trail_test

import (
	"math"
	"testing"

	"redline/api"
	"redline/trail"
)

// P2.1: a path with a number below 0, wherever it stands, may not be.
func TestCheck(t *testing.T) {
	for _, x := range []struct {
		p    []int
		want api.Errno
	}{
		{nil, api.OK},
		{path(), api.OK},
		{path(0), api.OK},
		{path(1), api.OK},
		{path(-1), api.ErrPath},
		{path(math.MaxInt), api.OK},
		{path(math.MinInt), api.ErrPath},
		{path(0, 0, 0), api.OK},
		{path(3, 1, 2), api.OK},
		{path(-1, 0, 0), api.ErrPath},
		{path(0, -1, 0), api.ErrPath},
		{path(0, 0, -1), api.ErrPath},
		{path(0, math.MinInt), api.ErrPath},
		{path(math.MaxInt, math.MaxInt), api.OK},
		{path(-1, -1), api.ErrPath},
		{long(1 << 16), api.OK},
		{with(long(1<<16), 1<<16-1, -1), api.ErrPath},
		{with(long(1<<16), 0, -1), api.ErrPath},
	} {
		if got := trail.Check(x.p); got != x.want {
			t.Errorf("%.20v: got %d, want %d", x.p, got, x.want)
		}
	}
}

// P2.1: the first numbers that are not the same tell; if there are none, the shorter one stands ahead. Same says whether that is 0.
func TestCompare(t *testing.T) {
	for _, x := range []struct {
		a, b []int
		want int
	}{
		{nil, nil, 0},
		{nil, path(), 0},
		{nil, path(0), -1},
		{nil, path(-1), -1},
		{nil, path(math.MinInt), -1},
		{nil, path(0, 0), -1},
		{path(0), path(0), 0},
		{path(0), path(1), -1},
		{path(-1), path(0), -1},
		{path(-2), path(-1), -1},
		{path(2), path(10), -1},
		{path(0), path(0, 0), -1},
		{path(0), path(0, -1), -1},
		{path(0), path(0, math.MinInt), -1},
		{path(0, 5), path(1), -1},
		{path(0, 5, 5, 5), path(1), -1},
		{path(0), path(1, 0), -1},
		{path(1, 2, 3), path(1, 2, 3), 0},
		{path(1, 2, 3), path(1, 2, 4), -1},
		{path(1, 2, 9), path(1, 3, 0), -1},
		{path(1, 9, 9), path(2, 0, 0), -1},
		{path(1, 2), path(1, 2, 0), -1},
		{path(1, 2, 9), path(1, 3), -1},
		{path(1, 2), path(1, 3, 0), -1},
		{path(math.MinInt), path(math.MaxInt), -1},
		{path(math.MinInt), path(0), -1},
		{path(-1), path(math.MaxInt), -1},
		{path(math.MaxInt - 1), path(math.MaxInt), -1},
		{path(math.MaxInt), path(math.MaxInt), 0},
		{path(math.MinInt), path(math.MinInt + 1), -1},
		{path(0, math.MinInt, 1), path(0, math.MaxInt, 0), -1},
		{path(math.MaxInt), path(math.MaxInt, 0), -1},
		{long(1000), long(1000), 0},
		{long(1000), long(1001), -1},
		{with(long(1000), 999, 0), with(long(1000), 999, 1), -1},
	} {
		if got := trail.Compare(x.a, x.b); got != x.want {
			t.Errorf("%v, %v: got %d, want %d", x.a, x.b, got, x.want)
		}
		if got := trail.Compare(x.b, x.a); got != -x.want {
			t.Errorf("%v, %v: got %d, want %d", x.b, x.a, got, -x.want)
		}
		if trail.Same(x.a, x.b) != (x.want == 0) || trail.Same(x.b, x.a) != (x.want == 0) {
			t.Errorf("%v, %v: the same or not is told wrongly", x.a, x.b)
		}
	}
}

// compared is what the chapter's words say, as plainly as can be.
func compared(a, b []int) int {
	switch {
	case len(a) == 0 && len(b) == 0:
		return 0
	case len(a) == 0:
		return -1
	case len(b) == 0:
		return 1
	case a[0] < b[0]:
		return -1
	case a[0] > b[0]:
		return 1
	}
	return compared(a[1:], b[1:])
}

// P2.1: of all small paths, and of those with numbers at the ends.
func TestCompareAll(t *testing.T) {
	for _, all := range [][][]int{small(), edges()} {
		for _, a := range all {
			for _, b := range all {
				if got, want := trail.Compare(a, b), compared(a, b); got != want {
					t.Fatalf("%v, %v: got %d, want %d", a, b, got, want)
				}
				if got, want := trail.Same(a, b), equal(a, b); got != want {
					t.Fatalf("%v, %v: the same: got %v", a, b, got)
				}
			}
		}
	}
}
