package trail_test

import (
	"math"
	"slices"
	"testing"

	"redline/trail"
)

// P2.4: the longest path that is both, or above each that it is not.
func TestCommon(t *testing.T) {
	for _, x := range []struct{ a, b, want []int }{
		{nil, nil, nil},
		{nil, path(), nil},
		{nil, path(0), nil},
		{nil, path(1, 2), nil},
		{path(0), path(0), path(0)},
		{path(0), path(1), nil},
		{path(-1), path(-1), path(-1)},
		{path(-1), path(1), nil},
		{path(0), path(0, 1), path(0)},
		{path(0, 1), path(0, 1, 3), path(0, 1)},
		{path(0, 1, 2), path(0, 1, 2), path(0, 1, 2)},
		{path(0, 1, 2), path(0, 1, 3, 4), path(0, 1)},
		{path(0, 1, 2), path(0, 2, 2), path(0)},
		{path(0, 1, 2), path(1, 1, 2), nil},
		{path(0, 1, 2), path(1, 2), nil},
		{path(0, 1, 2, 9), path(0, 1, 3, 9), path(0, 1)},
		{path(math.MaxInt, 1), path(math.MaxInt, 2), path(math.MaxInt)},
		{path(math.MinInt, 1), path(math.MinInt, 2), path(math.MinInt)},
		{path(math.MinInt), path(math.MaxInt), nil},
		{long(1000), long(1001), long(1000)},
		{with(long(1000), 999, 8), with(long(1000), 999, 9), long(999)},
	} {
		if got := trail.Common(x.a, x.b); !equal(got, x.want) {
			t.Errorf("%v, %v: got %v, want %v", x.a, x.b, got, x.want)
		}
		if got := trail.Common(x.b, x.a); !equal(got, x.want) {
			t.Errorf("%v, %v: got %v, want %v", x.b, x.a, got, x.want)
		}
	}
}

// common tries all paths with which a begins, the longest one first.
func common(a, b []int) []int {
	for n := len(a); n > 0; n-- {
		p := a[:n]
		if (equal(p, a) || above(p, a)) && (equal(p, b) || above(p, b)) {
			return p
		}
	}
	return nil
}

// P2.4: of all small paths, and of those with numbers at the ends.
func TestCommonAll(t *testing.T) {
	for _, all := range [][][]int{small(), edges()} {
		for _, a := range all {
			for _, b := range all {
				if got, want := trail.Common(a, b), common(a, b); !equal(got, want) {
					t.Fatalf("%v, %v: got %v, want %v", a, b, got, want)
				}
			}
		}
	}
}

// P2.4: all that are above p, the shortest one first, and p.
func TestLevels(t *testing.T) {
	for _, x := range []struct {
		p    []int
		want [][]int
	}{
		{nil, [][]int{nil}},
		{path(), [][]int{nil}},
		{path(0), [][]int{nil, path(0)}},
		{path(-1), [][]int{nil, path(-1)}},
		{path(4, 5), [][]int{nil, path(4), path(4, 5)}},
		{path(0, 0, 0), [][]int{nil, path(0), path(0, 0), path(0, 0, 0)}},
		{path(3, 1, 2), [][]int{nil, path(3), path(3, 1), path(3, 1, 2)}},
		{path(math.MaxInt, math.MinInt), [][]int{nil, path(math.MaxInt), path(math.MaxInt, math.MinInt)}},
	} {
		if got := trail.Levels(x.p); !slices.EqualFunc(got, x.want, equal) {
			t.Errorf("%v: got %v, want %v", x.p, got, x.want)
		}
	}
}

// P2.4: also of a path of many numbers.
func TestLevelsLong(t *testing.T) {
	p := long(1000)
	got := trail.Levels(p)
	if len(got) != 1001 {
		t.Fatalf("got %d", len(got))
	}
	for n, l := range got {
		if !equal(l, p[:n]) {
			t.Fatalf("%d: got %v", n, l)
		}
	}
}

// R2: arguments are not changed, nor what lies behind their ends; what is told shares nothing with them, nor with what is told another time.
func TestCommonNew(t *testing.T) {
	for _, x := range []struct{ a, b []int }{
		{nil, nil},
		{nil, path(1)},
		{path(1, 2), path(1, 2)},
		{path(1, 2), path(1, 2, 3)},
		{path(1, 2, 3), path(1, 2)},
		{path(1, 2, 3), path(1, 4, 5)},
		{path(1), path(2)},
	} {
		a, room1 := roomy(x.a)
		b, room2 := roomy(x.b)
		want := trail.Common(slices.Clone(x.a), slices.Clone(x.b))
		one, two := trail.Common(a, b), trail.Common(a, b)
		spoil(one)
		if !equal(a, x.a) || !equal(b, x.b) || !equal(two, want) {
			t.Errorf("%v, %v: shared: %v, %v, %v", x.a, x.b, a, b, two)
		}
		wantUntouched(t, slices.Concat(room1, room2))
		spoil(a)
		spoil(b)
		if !equal(two, want) {
			t.Errorf("%v, %v: %v became %v", x.a, x.b, want, two)
		}
	}
}

// R2: each level is a list of its own, and shares nothing with the argument.
func TestLevelsNew(t *testing.T) {
	for _, x := range [][]int{nil, path(3), path(4, 5), path(4, 5, 6, 7)} {
		p, room := roomy(x)
		one, two := trail.Levels(p), trail.Levels(p)
		for n := range one {
			spoil(one[n])
			for m := n + 1; m < len(one); m++ {
				if !equal(one[m], x[:m]) {
					t.Errorf("%v: level %d shares with level %d", x, m, n)
				}
			}
		}
		for n := len(two) - 1; n > 0; n-- {
			spoil(two[n])
			for m := range n {
				if !equal(two[m], x[:m]) {
					t.Errorf("%v: level %d shares with level %d", x, m, n)
				}
			}
		}
		if !equal(p, x) {
			t.Errorf("%v became %v", x, p)
		}
		wantUntouched(t, room)
		three := trail.Levels(p)
		spoil(p)
		for m := range three {
			if !equal(three[m], x[:m]) {
				t.Errorf("%v: level %d became %v", x, m, three[m])
			}
		}
	}
}
