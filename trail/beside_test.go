package trail_test

import (
	"math"
	"slices"
	"testing"

	"redline/api"
	"redline/trail"
)

// teller is a call that tells one path of another.
type teller func([]int) ([]int, api.Errno)

type told struct {
	p, want []int
	e       api.Errno
}

// wantTold holds what a call tells against what it should, and looks that with an error nothing else is told.
func wantTold(t *testing.T, how teller, all []told) {
	t.Helper()
	for _, x := range all {
		got, e := how(x.p)
		if e != x.e || !equal(got, x.want) {
			t.Errorf("%v: got %v, %d, want %v, %d", x.p, got, e, x.want, x.e)
		}
	}
}

// P2.3: a path without its last number; the root has no parent.
func TestParent(t *testing.T) {
	wantTold(t, trail.Parent, []told{
		{nil, nil, api.ErrRoot},
		{path(), nil, api.ErrRoot},
		{path(1, 2, 3)[:0], nil, api.ErrRoot},
		{path(0), nil, api.OK},
		{path(3), nil, api.OK},
		{path(-1), nil, api.OK},
		{path(math.MaxInt), nil, api.OK},
		{path(math.MinInt), nil, api.OK},
		{path(3, 4), path(3), api.OK},
		{path(0, 0), path(0), api.OK},
		{path(3, -1), path(3), api.OK},
		{path(-1, 4), path(-1), api.OK},
		{path(3, math.MaxInt), path(3), api.OK},
		{path(1, 2, 3, 4), path(1, 2, 3), api.OK},
		{long(1 << 16), long(1<<16 - 1), api.OK},
	})
}

// P2.3: the path beside it whose last number is one more; the root has none, nor has one with the greatest int.
func TestNext(t *testing.T) {
	wantTold(t, trail.Next, []told{
		{nil, nil, api.ErrRoot},
		{path(), nil, api.ErrRoot},
		{path(math.MaxInt)[:0], nil, api.ErrRoot},
		{path(0), path(1), api.OK},
		{path(3), path(4), api.OK},
		{path(3, 4), path(3, 5), api.OK},
		{path(3, 0), path(3, 1), api.OK},
		{path(1, 2, 3, 9), path(1, 2, 3, 10), api.OK},
		{path(-1), path(0), api.OK},
		{path(-2), path(-1), api.OK},
		{path(math.MinInt), path(math.MinInt + 1), api.OK},
		{path(math.MaxInt - 1), path(math.MaxInt), api.OK},
		{path(math.MaxInt), nil, api.ErrPos},
		{path(0, math.MaxInt), nil, api.ErrPos},
		{path(-1, math.MaxInt), nil, api.ErrPos},
		{path(math.MaxInt, 0), path(math.MaxInt, 1), api.OK},
		{path(-1, 7), path(-1, 8), api.OK},
		{path(math.MaxInt, math.MaxInt), nil, api.ErrPos},
		{path(math.MaxInt32), path(math.MaxInt32 + 1), api.OK},
		{path(api.MaxCap), path(api.MaxCap + 1), api.OK},
		{with(long(1<<16), 1<<16-1, 8), with(long(1<<16), 1<<16-1, 9), api.OK},
	})
}

// P2.3: the path beside it whose last number is one less; the root has none, nor has one with 0, or less.
func TestBack(t *testing.T) {
	wantTold(t, trail.Back, []told{
		{nil, nil, api.ErrRoot},
		{path(), nil, api.ErrRoot},
		{path(0)[:0], nil, api.ErrRoot},
		{path(1), path(0), api.OK},
		{path(2), path(1), api.OK},
		{path(3, 4), path(3, 3), api.OK},
		{path(3, 1), path(3, 0), api.OK},
		{path(1, 2, 3, 10), path(1, 2, 3, 9), api.OK},
		{path(0), nil, api.ErrPos},
		{path(-1), nil, api.ErrPos},
		{path(-2), nil, api.ErrPos},
		{path(math.MinInt), nil, api.ErrPos},
		{path(3, 0), nil, api.ErrPos},
		{path(3, -1), nil, api.ErrPos},
		{path(3, math.MinInt), nil, api.ErrPos},
		{path(0, 0), nil, api.ErrPos},
		{path(-1, 0), nil, api.ErrPos},
		{path(0, 1), path(0, 0), api.OK},
		{path(-1, 1), path(-1, 0), api.OK},
		{path(math.MinInt, 7), path(math.MinInt, 6), api.OK},
		{path(math.MaxInt), path(math.MaxInt - 1), api.OK},
		{path(math.MaxInt, 1), path(math.MaxInt, 0), api.OK},
		{path(math.MaxInt32 + 1), path(math.MaxInt32), api.OK},
		{with(long(1<<16), 1<<16-1, 9), with(long(1<<16), 1<<16-1, 8), api.OK},
	})
}

// R2: an argument is not changed, nor what lies behind its end; what is told shares nothing with it, nor with what is told another time.
func TestBesideNew(t *testing.T) {
	for name, how := range map[string]teller{"parent": trail.Parent, "next": trail.Next, "back": trail.Back} {
		for _, x := range [][]int{nil, path(0), path(2), path(3, 4), path(1, 2, 3, 4), path(0, math.MaxInt), path(-1, -1)} {
			p, room := roomy(x)
			want, _ := how(slices.Clone(x))
			one, _ := how(p)
			two, _ := how(p)
			spoil(one)
			if !equal(p, x) || !equal(two, want) {
				t.Errorf("%s: %v: shared: %v, %v", name, x, p, two)
			}
			wantUntouched(t, room)
			spoil(p)
			if !equal(two, want) {
				t.Errorf("%s: %v: %v became %v", name, x, want, two)
			}
		}
	}
}
