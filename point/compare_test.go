package point_test

import (
	"math"
	"slices"
	"testing"

	"redline/api"
	"redline/point"
)

// P7.1: the paths tell, if they are not the same, else the Offs. Same says whether that is 0.
func TestCompare(t *testing.T) {
	for _, x := range []struct {
		a, b api.Point
		want int
	}{
		{pt(0), pt(0), 0},
		{api.Point{}, api.Point{Path: []int{}}, 0},
		{pt(0), pt(1), -1},
		{pt(-1), pt(0), -1},
		{pt(2), pt(10), -1},
		{pt(math.MinInt), pt(math.MaxInt), -1},
		{pt(math.MinInt), pt(0), -1},
		{pt(math.MinInt), pt(1), -1},
		{pt(-2), pt(math.MaxInt), -1},
		{pt(math.MaxInt - 1), pt(math.MaxInt), -1},
		{pt(1), pt(1 << 32), -1},
		{pt(1 << 32), pt(1<<32 + 1), -1},
		{pt(3, 1, 0), pt(3, 1, 0), 0},
		{pt(0, 1, 0), pt(1, 1, 0), -1},
		{pt(math.MinInt, 1, 0), pt(math.MaxInt, 1, 0), -1},
		{pt(9, 0), pt(0, 1), -1},
		{pt(0, 0), pt(9, 1), -1},
		{pt(5, 0), pt(5, 1), -1},
		{pt(9), pt(0, 0), -1},
		{pt(9, 1), pt(0, 1, 0), -1},
		{pt(9, 1), pt(0, 1, -1), -1},
		{pt(math.MaxInt, 0, 5), pt(math.MinInt, 1), -1},
		{pt(1, 1, 0), pt(0, 1, 1, 0), -1},
		{pt(9, 2), pt(0, 10), -1},
		{pt(9, -1), pt(0, 0), -1},
		{pt(9, math.MinInt), pt(0, math.MaxInt), -1},
		{pt(0, 1, 2, 9), pt(0, 1, 3), -1},
		{api.Point{Path: slices.Repeat(path(1), 1<<16)}, api.Point{Path: slices.Repeat(path(1), 1<<16)}, 0},
		{api.Point{Path: slices.Repeat(path(1), 1<<16)}, api.Point{Path: slices.Repeat(path(1), 1<<16), Off: 1}, -1},
	} {
		if got := point.Compare(x.a, x.b); got != x.want {
			t.Errorf("%.20v, %.20v: got %d, want %d", x.a, x.b, got, x.want)
		}
		if got := point.Compare(x.b, x.a); got != -x.want {
			t.Errorf("%.20v, %.20v: got %d, want %d", x.b, x.a, got, -x.want)
		}
		if point.Same(x.a, x.b) != (x.want == 0) || point.Same(x.b, x.a) != (x.want == 0) {
			t.Errorf("%.20v, %.20v: the same or not is told wrongly", x.a, x.b)
		}
		wantOrder(t, x.a, x.b, false)
		wantOrder(t, x.b, x.a, x.want != 0)
	}
}

// wantOrder looks which of a range's points stand where.
func wantOrder(t *testing.T, anchor, focus api.Point, turned bool) {
	t.Helper()
	first, second := anchor, focus
	if turned {
		first, second = focus, anchor
	}
	start, end, got := point.Order(api.Range{Anchor: anchor, Focus: focus})
	if got != turned || !equal(start, first) || !equal(end, second) {
		t.Fatalf("%.20v to %.20v: got %.20v, %.20v, %v", anchor, focus, start, end, got)
	}
}

// points are many, near one another and at the ends of what an int can be.
func points() []api.Point {
	var out []api.Point
	for _, p := range append(places(2, 1), path(math.MaxInt), path(math.MinInt), path(0, math.MaxInt)) {
		for _, off := range []int{math.MinInt, -1, 0, 1, 2, math.MaxInt} {
			out = append(out, api.Point{Path: p, Off: off})
		}
	}
	return out
}

// P7.1: of all of many points, two by two: ranges both ways round, too.
func TestCompareAll(t *testing.T) {
	for _, a := range points() {
		for _, b := range points() {
			want := compared(a, b)
			if got := point.Compare(a, b); got != want {
				t.Fatalf("%v, %v: got %d, want %d", a, b, got, want)
			}
			if got := point.Same(a, b); got != (want == 0) {
				t.Fatalf("%v, %v: the same: got %v", a, b, got)
			}
			wantOrder(t, a, b, want == 1)
		}
	}
}

// P7.1: Compare tells an order: one of two points that are not the same stands ahead, and what stands ahead of what stands ahead does, too.
func TestCompareIsAnOrder(t *testing.T) {
	all := points()
	for _, a := range all {
		if point.Compare(a, a) != 0 || !point.Same(a, a) {
			t.Fatalf("%v is not the same as itself", a)
		}
		for _, b := range all {
			c := point.Compare(a, b)
			if c != -point.Compare(b, a) || (c == 0) != point.Same(a, b) {
				t.Fatalf("%v, %v: got %d, the other way round %d", a, b, c, point.Compare(b, a))
			}
			if c != -1 {
				continue
			}
			for _, d := range all {
				if point.Compare(b, d) <= 0 && point.Compare(a, d) != -1 {
					t.Fatalf("%v, %v, %v do not rise", a, b, d)
				}
			}
		}
	}
}

// R2, P7.1: what Order tells is new: it shares nothing with the range, nor the start with the end, also if the range's points are of one list.
func TestOrderNew(t *testing.T) {
	one := path(1, 2, 3)
	for _, r := range []api.Range{
		{Anchor: pt(0, 1, 0), Focus: pt(5, 1, 2, 0)},
		{Anchor: pt(5, 1, 2, 0), Focus: pt(0, 1, 0)},
		{Anchor: pt(1, 1), Focus: pt(1, 1)},
		{Anchor: api.Point{Path: one}, Focus: api.Point{Path: one, Off: 1}},
		{Anchor: api.Point{Path: one, Off: 1}, Focus: api.Point{Path: one}},
		{Anchor: api.Point{Path: one}, Focus: api.Point{Path: one[:2]}},
		{},
	} {
		in := roomySel(api.Sel{Range: r})
		if r.Anchor.Path != nil && &r.Anchor.Path[0] == &r.Focus.Path[0] {
			in.Focus.Path = in.Anchor.Path[:len(r.Focus.Path)]
		}
		before := showSel(in)
		wantStart, wantEnd, _ := point.Order(r)
		start, end, _ := point.Order(in.Range)
		spoil(start.Path)
		if !equal(end, wantEnd) {
			t.Errorf("%v: the start shares with the end", r)
		}
		spoil(end.Path)
		if showSel(in) != before {
			t.Errorf("%v: the range is changed with what was told of it: %s", r, showSel(in))
		}
		start, end, _ = point.Order(in.Range)
		spoil(in.Anchor.Path)
		spoil(in.Focus.Path)
		if !equal(start, wantStart) || !equal(end, wantEnd) {
			t.Errorf("%v: what was told is changed with the range: %v, %v", r, start, end)
		}
	}
}
