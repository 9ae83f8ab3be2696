package trail_test

import (
	"math"
	"slices"
	"testing"

	"redline/api"
	"redline/trail"
)

// cut is a path cut behind the first index at which it differs from another one.
func cut(a, b []int) []int {
	for i := range min(len(a), len(b)) {
		if a[i] != b[i] {
			return a[:i+1]
		}
	}
	return a
}

// differ tells whether there is an index at which two paths differ: else one of them begins with the other one.
func differ(a, b []int) bool {
	return !equal(a[:min(len(a), len(b))], b[:min(len(a), len(b))])
}

// P2.5: exactly one holds: they are the same; one is above the other one; one, cut where they differ, is left of the other one.
func TestExactlyOne(t *testing.T) {
	for _, all := range [][][]int{small(), edges()} {
		for _, a := range all {
			for _, b := range all {
				n := 0
				for _, is := range []bool{
					trail.Same(a, b),
					trail.Above(a, b),
					trail.Above(b, a),
					differ(a, b) && trail.Left(cut(a, b), b),
					differ(a, b) && trail.Left(cut(b, a), a),
				} {
					if is {
						n++
					}
				}
				if n != 1 {
					t.Fatalf("%v, %v: %d hold", a, b, n)
				}
			}
		}
	}
}

// P2.5: which one holds is what Compare tells.
func TestCompareFollows(t *testing.T) {
	for _, all := range [][][]int{small(), edges()} {
		for _, a := range all {
			for _, b := range all {
				want := 0
				switch {
				case trail.Above(a, b), differ(a, b) && trail.Left(cut(a, b), b):
					want = -1
				case trail.Above(b, a), differ(a, b) && trail.Left(cut(b, a), a):
					want = 1
				}
				if got := trail.Compare(a, b); got != want {
					t.Fatalf("%v, %v: got %d, want %d", a, b, got, want)
				}
			}
		}
	}
}

// P2.5: Compare is a total order: of the same alone it is 0, changed round it is turned, and it goes on from one to the next.
func TestTotalOrder(t *testing.T) {
	for _, all := range [][][]int{small(), edges()} {
		for _, a := range all {
			for _, b := range all {
				ab := trail.Compare(a, b)
				if ab < -1 || ab > 1 || ab != -trail.Compare(b, a) || (ab == 0) != trail.Same(a, b) {
					t.Fatalf("%v, %v: got %d", a, b, ab)
				}
				for _, c := range all {
					if ab <= 0 && trail.Compare(b, c) <= 0 && trail.Compare(a, c) > 0 {
						t.Fatalf("%v, %v, %v are in no order", a, b, c)
					}
				}
			}
		}
	}
}

// P2.5: sorted by Compare, a path stands ahead of all that it is above, and these stand next to it.
func TestSorted(t *testing.T) {
	all := small()
	slices.SortFunc(all, trail.Compare)
	for i, a := range all {
		end := false
		for _, b := range all[i+1:] {
			end = end || !trail.Above(a, b)
			if end && trail.Above(a, b) {
				t.Fatalf("%v is above %v, and does not stand next to those that it is above", a, b)
			}
		}
		for _, b := range all[:i] {
			if trail.Above(a, b) || trail.Same(a, b) {
				t.Fatalf("%v stands ahead of %v", b, a)
			}
		}
	}
}

// P2.2 to P2.4 fit together: of one path what the calls tell of it stands as they say.
func TestFit(t *testing.T) {
	for _, p := range slices.Concat(small(), edges()) {
		levels := trail.Levels(p)
		if len(levels) != len(p)+1 || !trail.Same(levels[len(p)], p) {
			t.Fatalf("%v: got %v", p, levels)
		}
		for _, l := range levels[:len(p)] {
			if !trail.Above(l, p) || trail.Compare(l, p) != -1 || !trail.Same(trail.Common(l, p), l) {
				t.Fatalf("%v: %v is not above it", p, l)
			}
		}
		if up, e := trail.Parent(p); e == api.OK && !trail.Same(up, levels[len(p)-1]) {
			t.Fatalf("%v: its parent is %v", p, up)
		}
		if next, e := trail.Next(p); e == api.OK && !trail.Left(p, next) {
			t.Fatalf("%v: the next one is %v", p, next)
		}
		if back, e := trail.Back(p); e == api.OK && !trail.Left(back, p) {
			t.Fatalf("%v: the one ahead is %v", p, back)
		}
	}
}

// P2.3: Next and Back undo one another, and leave the parent as it is.
func TestNextBack(t *testing.T) {
	for _, p := range slices.Concat(small(), edges()) {
		if len(p) == 0 || p[len(p)-1] < 0 || p[len(p)-1] == math.MaxInt {
			continue
		}
		next, e := trail.Next(p)
		if e != api.OK {
			t.Fatalf("%v: %d", p, e)
		}
		back, e := trail.Back(next)
		if e != api.OK || !equal(back, p) {
			t.Fatalf("%v: there and back is %v, %d", p, back, e)
		}
		if up, _ := trail.Parent(next); !equal(up, p[:len(p)-1]) {
			t.Fatalf("%v: the next one's parent is %v", p, up)
		}
	}
}
