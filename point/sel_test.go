package point_test

import (
	"math"
	"testing"

	"redline/api"
	"redline/point"
)

func sel(anchor, focus api.Point) api.Sel {
	return api.Sel{Is: true, Range: api.Range{Anchor: anchor, Focus: focus}}
}

// none is a selection that is none, with those points.
func none(anchor, focus api.Point) api.Sel {
	s := sel(anchor, focus)
	s.Is = false
	return s
}

// P7.3: a selection that is none has points that are zero.
func TestCheckSelNone(t *testing.T) {
	for _, x := range []struct {
		s    api.Sel
		want api.Errno
	}{
		{api.Sel{}, api.OK},
		{none(api.Point{Path: []int{}}, api.Point{}), api.OK},
		{none(api.Point{}, api.Point{Path: path(3, 3)[:0]}), api.OK},
		{none(pt(1), pt(0)), api.ErrArg},
		{none(pt(-1), pt(0)), api.ErrArg},
		{none(pt(0), pt(1)), api.ErrArg},
		{none(pt(0), pt(-1)), api.ErrArg},
		{none(pt(1<<32), pt(0)), api.ErrArg},
		{none(pt(0), pt(math.MinInt)), api.ErrArg},
		{none(pt(0, 0), pt(0)), api.ErrArg},
		{none(pt(0), pt(0, 0)), api.ErrArg},
		{none(pt(0, -1), pt(0)), api.ErrArg},
		{none(pt(0, 0, 0), pt(0)), api.ErrArg},
		{none(pt(1), pt(-1)), api.ErrArg},
		{none(pt(1), pt(1)), api.ErrArg},
		// Whether such points would be of the tree is not asked.
		{none(pt(0, 1, 0), pt(1, 1, 0)), api.ErrArg},
		{none(pt(0, 2), pt(0)), api.ErrArg},
		{none(pt(0), pt(0, 2)), api.ErrArg},
		{none(pt(9, 2), pt(0, 9)), api.ErrArg},
	} {
		for _, k := range known() {
			if got := point.CheckSel(k.n, x.s); got != x.want {
				t.Errorf("%s, %v: got %d, want %d", show(k.n), x.s, got, x.want)
			}
		}
	}
}

// P7.3: of a selection first what is wrong with its Anchor, then what is with its Focus.
func TestCheckSel(t *testing.T) {
	n := sample()
	type one struct {
		p api.Point
		e api.Errno
	}
	all := []one{
		{pt(0, 1, 0), api.OK}, {pt(2, 1, 0), api.OK}, {pt(0, 1, 1, 0), api.OK}, {pt(3, 2), api.OK}, {pt(2, 3, 1, 1, 0, 0), api.OK},
		{pt(-1, 1, 0), api.ErrPos}, {pt(4, 2), api.ErrPos}, {pt(1, 1, 1, 0), api.ErrPos}, {pt(math.MaxInt, 2), api.ErrPos},
		{pt(0), api.ErrLeaf}, {pt(-1), api.ErrLeaf}, {pt(0, 1), api.ErrLeaf}, {pt(9, 0), api.ErrLeaf},
		{pt(0, 5), api.ErrPath}, {pt(0, -1), api.ErrPath}, {pt(9, 2, 0), api.ErrPath}, {pt(0, math.MaxInt, 0), api.ErrPath},
	}
	for _, a := range all {
		for _, f := range all {
			want := a.e
			if want == api.OK {
				want = f.e
			}
			if got := point.CheckSel(n, sel(a.p, f.p)); got != want {
				t.Errorf("%v to %v: got %d, want %d", a.p, f.p, got, want)
			}
		}
	}
	for _, x := range []struct {
		n    api.Node
		s    api.Sel
		want api.Errno
	}{
		{elem(), sel(pt(0), pt(0)), api.ErrLeaf},
		{leaf(""), sel(pt(0), pt(0)), api.OK},
		{leaf("ab"), sel(pt(2), pt(0)), api.OK},
		{leaf("ab"), sel(pt(2), pt(3)), api.ErrPos},
		{leaf("ab"), sel(pt(0, 0), pt(3)), api.ErrPath},
		{odd(), sel(pt(2, 1), pt(3, 1, 0)), api.OK},
		{odd(), sel(pt(0, 1, 1), pt(0, 9)), api.ErrLeaf},
		{oddLeaf(), sel(pt(3, 1), pt(2)), api.OK},
	} {
		if got := point.CheckSel(x.n, x.s); got != x.want {
			t.Errorf("%s, %v: got %d, want %d", show(x.n), x.s, got, x.want)
		}
	}
}

// P7.3: two selections are the same, if both are, or both are none, and each point is the same as the other one's.
func TestSameSel(t *testing.T) {
	few := []api.Point{pt(0), pt(1), pt(-1), pt(0, 0), pt(1, 0), pt(0, 1), pt(0, 0, 0), pt(math.MaxInt, math.MinInt)}
	var all []api.Sel
	for _, a := range few {
		for _, f := range few {
			all = append(all, sel(a, f), none(a, f))
		}
	}
	for i, a := range all {
		for k, b := range all {
			if got := point.SameSel(a, b); got != (i == k) {
				t.Errorf("%v, %v: got %v", a, b, got)
			}
		}
	}
	for _, x := range []struct {
		a, b api.Sel
		want bool
	}{
		{api.Sel{}, none(api.Point{Path: []int{}}, api.Point{Path: path(1)[:0]}), true},
		{sel(api.Point{}, api.Point{}), sel(api.Point{Path: []int{}}, api.Point{Path: []int{}}), true},
		{api.Sel{}, sel(api.Point{}, api.Point{}), false},
		{sel(pt(1, 2, 3), pt(4, 5)), sel(pt(1, 2, 3), pt(4, 5)), true},
		{sel(pt(1, 2, 3), pt(4, 5)), sel(pt(4, 5), pt(1, 2, 3)), false},
	} {
		if point.SameSel(x.a, x.b) != x.want || point.SameSel(x.b, x.a) != x.want {
			t.Errorf("%v, %v: got not %v", x.a, x.b, x.want)
		}
	}
}
