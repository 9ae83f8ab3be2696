package point_test

import (
	"math"
	"slices"
	"testing"

	"redline/api"
	"redline/point"
)

// P7.1: the path is that of a leaf, and the Off 0 to how many runes that has.
func TestCheck(t *testing.T) {
	n := sample()
	for _, x := range []struct {
		p    api.Point
		want api.Errno
	}{
		{pt(-1, 1, 0), api.ErrPos},
		{pt(0, 1, 0), api.OK},
		{pt(1, 1, 0), api.OK},
		{pt(2, 1, 0), api.OK},
		{pt(3, 1, 0), api.ErrPos},
		// A leaf without text has one gap.
		{pt(-1, 1, 1, 0), api.ErrPos},
		{pt(0, 1, 1, 0), api.OK},
		{pt(1, 1, 1, 0), api.ErrPos},
		// Runes are counted, not bytes.
		{pt(3, 1, 2), api.OK},
		{pt(4, 1, 2), api.ErrPos},
		{pt(8, 1, 2), api.ErrPos},
		{pt(3, 2), api.OK},
		{pt(4, 2), api.ErrPos},
		{pt(1, 3, 1, 0), api.OK},
		{pt(2, 3, 1, 1, 0, 0), api.OK},
		{pt(3, 3, 1, 1, 0, 0), api.ErrPos},
		{pt(math.MaxInt, 2), api.ErrPos},
		{pt(math.MinInt, 2), api.ErrPos},
		{pt(1<<32, 2), api.ErrPos},
		{pt(1<<32+1, 2), api.ErrPos},
		{pt(-1<<32, 2), api.ErrPos},
		// An element has no gap, whatever it has in it.
		{pt(0), api.ErrLeaf},
		{api.Point{Path: path(2, 2)[:0]}, api.ErrLeaf},
		{pt(0, 0), api.ErrLeaf},
		{pt(0, 1), api.ErrLeaf},
		{pt(0, 1, 1), api.ErrLeaf},
		{pt(0, 3, 1, 1, 0), api.ErrLeaf},
		// There is no node.
		{pt(0, 5), api.ErrPath},
		{pt(0, -1), api.ErrPath},
		{pt(0, 0, 0), api.ErrPath},
		{pt(0, 1, 3), api.ErrPath},
		{pt(0, 1, -1), api.ErrPath},
		{pt(0, 1<<32+2), api.ErrPath},
		{pt(0, math.MaxInt), api.ErrPath},
		{pt(0, math.MinInt), api.ErrPath},
		{pt(0, -1, 0), api.ErrPath},
		// Below a leaf there is none, either.
		{pt(0, 2, 0), api.ErrPath},
		{pt(0, 1, 0, 0), api.ErrPath},
		{pt(0, 1, 1, 0, 0, 0), api.ErrPath},
		{pt(0, 2, -1), api.ErrPath},
		// Of several errors the path's is told first, then that of what stands there.
		{pt(-1), api.ErrLeaf},
		{pt(9), api.ErrLeaf},
		{pt(math.MaxInt, 1), api.ErrLeaf},
		{pt(-1, 5), api.ErrPath},
		{pt(9, 2, 0), api.ErrPath},
		{pt(math.MinInt, 0, 0), api.ErrPath},
	} {
		if got := point.Check(n, x.p); got != x.want {
			t.Errorf("%v: got %d, want %d", x.p, got, x.want)
		}
	}
}

// P7.1: of a root that is a leaf itself, and of one that is nothing but an element.
func TestCheckAlone(t *testing.T) {
	for _, x := range []struct {
		n    api.Node
		p    api.Point
		want api.Errno
	}{
		{leaf("ab"), pt(-1), api.ErrPos},
		{leaf("ab"), pt(0), api.OK},
		{leaf("ab"), pt(2), api.OK},
		{leaf("ab"), api.Point{Path: []int{}, Off: 2}, api.OK},
		{leaf("ab"), pt(3), api.ErrPos},
		{leaf("ab"), pt(0, 0), api.ErrPath},
		{leaf("ab"), pt(3, -1), api.ErrPath},
		{leaf(""), pt(0), api.OK},
		{leaf(""), pt(1), api.ErrPos},
		{leaf(""), pt(-1), api.ErrPos},
		{elem(), pt(0), api.ErrLeaf},
		{elem(), pt(1), api.ErrLeaf},
		{elem(), pt(0, 0), api.ErrPath},
		{api.Node{}, api.Point{}, api.ErrLeaf},
	} {
		if got := point.Check(x.n, x.p); got != x.want {
			t.Errorf("%s, %v: got %d, want %d", show(x.n), x.p, got, x.want)
		}
	}
}

// P7.1: of a tree that may not be nothing is told but what is asked: an element's text has no gaps, a leaf's Kids are nodes.
func TestCheckWhatMayNotBe(t *testing.T) {
	for _, x := range []struct {
		n    api.Node
		p    api.Point
		want api.Errno
	}{
		{odd(), pt(0), api.ErrLeaf},
		{odd(), pt(0, 0), api.ErrLeaf},
		{odd(), pt(2, 1), api.OK},
		{odd(), pt(3, 1), api.ErrPos},
		{odd(), pt(3, 1, 0), api.OK},
		{odd(), pt(4, 1, 0), api.ErrPos},
		{odd(), pt(0, 1, 1), api.ErrLeaf},
		{odd(), pt(0, 1, 1, 0), api.OK},
		{odd(), pt(0, 1, 2), api.ErrLeaf},
		{odd(), pt(0, 1, 3), api.ErrPath},
		{odd(), pt(1, 2), api.OK},
		{odd(), pt(0, 2, 0), api.ErrLeaf},
		{oddLeaf(), pt(2), api.OK},
		{oddLeaf(), pt(3), api.ErrPos},
		{oddLeaf(), pt(3, 1), api.OK},
		{oddLeaf(), pt(0, 0), api.ErrLeaf},
	} {
		if got := point.Check(x.n, x.p); got != x.want {
			t.Errorf("%s, %v: got %d, want %d", show(x.n), x.p, got, x.want)
		}
	}
}

// checked is what the list of the leaves, and that of the gaps, say of a point.
func checked(n api.Node, p api.Point) api.Errno {
	for _, i := range p.Path {
		if i < 0 || i >= len(n.Kids) {
			return api.ErrPath
		}
		n = n.Kids[i]
	}
	if !slices.ContainsFunc(gaps(n), func(g api.Point) bool { return len(g.Path) == 0 }) {
		return api.ErrLeaf
	}
	if !slices.ContainsFunc(gaps(n), func(g api.Point) bool { return equal(g, api.Point{Off: p.Off}) }) {
		return api.ErrPos
	}
	return api.OK
}

// P7.1: of all small trees, and those that are known, all points near them.
func TestCheckAll(t *testing.T) {
	all := trees(3)
	for _, k := range known() {
		all = append(all, k.n)
	}
	for _, n := range all {
		for _, p := range places(3, 3) {
			for off := -1; off <= 4; off++ {
				g := api.Point{Path: p, Off: off}
				if got, want := point.Check(n, g), checked(n, g); got != want {
					t.Fatalf("%s, %v: got %d, want %d", show(n), g, got, want)
				}
			}
		}
	}
}

// P7.1: at the end of what may be: 2^16 levels, many Kids, a long text.
func TestCheckGreat(t *testing.T) {
	n := comb(1<<16, false)
	deep := slices.Repeat(path(1), 1<<16-2)
	end := slices.Concat(deep, path(0))
	for _, x := range []struct {
		p    api.Point
		want api.Errno
	}{
		{api.Point{Path: end, Off: 3}, api.OK},
		{api.Point{Path: end, Off: 4}, api.ErrPos},
		{api.Point{Path: deep, Off: 0}, api.ErrLeaf},
		{api.Point{Path: slices.Concat(end, path(0)), Off: 0}, api.ErrPath},
		{pt(2, 0), api.OK},
		{pt(3, 0), api.ErrPos},
		{pt(0), api.ErrLeaf},
	} {
		if got := point.Check(n, x.p); got != x.want {
			t.Errorf("%.20v, %d: got %d, want %d", x.p.Path, x.p.Off, got, x.want)
		}
	}
	n = wide(1 << 16)
	for i, want := range map[int]api.Errno{0: api.ErrLeaf, 1<<16 - 1: api.ErrLeaf, 1 << 16: api.OK, 2<<16 - 1: api.OK, 2 << 16: api.ErrLeaf, 3<<16 - 1: api.ErrLeaf, 3 << 16: api.ErrPath} {
		if got := point.Check(n, pt(1, i)); got != want {
			t.Errorf("%d: got %d, want %d", i, got, want)
		}
	}
	n = elem(api.Node{Leaf: true, Text: make([]rune, 1<<20)})
	if e, f := point.Check(n, pt(1<<20, 0)), point.Check(n, pt(1<<20+1, 0)); e != api.OK || f != api.ErrPos {
		t.Errorf("got %d, %d", e, f)
	}
}
