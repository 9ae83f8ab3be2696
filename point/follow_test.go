package point_test

import (
	"testing"

	"redline/api"
	"redline/point"
)

// many are trees of all kinds.
func many() []api.Node {
	out := trees(5)
	for _, k := range known() {
		out = append(out, k.n)
	}
	return append(out, comb(20, true), comb(20, false), wide(20))
}

// P7.4: of a tree's points First is the first one, Last the last one: all others stand between them.
func TestFirstAndLastOfAll(t *testing.T) {
	for _, n := range many() {
		first, e := point.First(n)
		last, f := point.Last(n)
		all := gaps(n)
		if len(all) == 0 {
			if e != api.ErrNone || f != api.ErrNone {
				t.Fatalf("%s: got %d, %d", show(n), e, f)
			}
			continue
		}
		if e != api.OK || f != api.OK || point.Check(n, first) != api.OK || point.Check(n, last) != api.OK {
			t.Fatalf("%s: %v, %v: got %d, %d", show(n), first, last, e, f)
		}
		for _, g := range all {
			if point.Check(n, g) != api.OK || point.Compare(first, g) > 0 || point.Compare(g, last) > 0 {
				t.Fatalf("%s: %v stands not from %v to %v", show(n), g, first, last)
			}
		}
	}
}

// P7.4, P7.1: a tree's points rise, and each range of them is ordered by where its points stand among all.
func TestPointsRise(t *testing.T) {
	for _, n := range many() {
		all := gaps(n)
		for i := range all {
			for k := range all {
				wantOrder(t, all[i], all[k], k < i)
			}
			if i > 0 && point.Compare(all[i-1], all[i]) != -1 {
				t.Fatalf("%s: %v does not stand ahead of %v", show(n), all[i-1], all[i])
			}
		}
	}
}

// P7.2, P7.4: what is told ahead of a path, and behind it, are points of the tree that stand next to one another there: between them are those alone whose leaf is above the path.
func TestNextToOneAnother(t *testing.T) {
	for _, n := range many() {
		all := gaps(n)
		for _, p := range places(3, 3) {
			ahead, e := point.Ahead(n, p)
			behind, f := point.Behind(n, p)
			if e == api.OK && point.Check(n, ahead) != api.OK || f == api.OK && point.Check(n, behind) != api.OK {
				t.Fatalf("%s, %v: %v, %v are no points of it", show(n), p, ahead, behind)
			}
			for _, g := range all {
				fits := e == api.OK && point.Compare(g, ahead) <= 0 || f == api.OK && point.Compare(g, behind) >= 0 || begins(p, g.Path)
				if !fits {
					t.Fatalf("%s, %v: %v stands between %v and %v", show(n), p, g, ahead, behind)
				}
			}
		}
	}
}

// R2: no call changes what it is handed, nor what stands behind its ends, whatever it answers.
func TestNothingIsChanged(t *testing.T) {
	var few []api.Point
	for _, p := range append(places(2, 3), path(1, 1, 0), path(3, 1, 1, 0, 0)) {
		few = append(few, api.Point{Path: p}, api.Point{Path: p, Off: 2}, api.Point{Path: p, Off: -1})
	}
	for _, k := range known() {
		n := roomy(k.n)
		before := show(n)
		for i, p := range few {
			a, b := roomyPoint(p), roomyPoint(few[len(few)-1-i])
			s, other := roomySel(sel(a, b)), roomySel(none(b, a))
			want := showPoint(a) + showPoint(b) + showSel(s) + showSel(other)
			point.Check(n, a)
			point.Compare(a, b)
			point.Same(a, b)
			point.Order(s.Range)
			point.Order(other.Range)
			point.First(n)
			point.Last(n)
			point.Ahead(n, a.Path)
			point.Behind(n, a.Path)
			point.CheckSel(n, s)
			point.CheckSel(n, other)
			point.SameSel(s, other)
			point.SameSel(other, s)
			if got := showPoint(a) + showPoint(b) + showSel(s) + showSel(other); got != want {
				t.Fatalf("%s: %s has become %s", before, want, got)
			}
		}
		if show(n) != before {
			t.Fatalf("%s has become %s", before, show(n))
		}
	}
}
