package point_test

import (
	"math"
	"slices"
	"testing"

	"redline/api"
	"redline/point"
)

// begins tells whether p is longer than q, and begins with it: whether q is above it.
func begins(p, q []int) bool {
	return len(p) > len(q) && slices.Equal(p[:len(q)], q)
}

// wantEnds holds what is told of a tree against its leaves.
func wantEnds(t *testing.T, n api.Node, l []spot) {
	t.Helper()
	var first, last api.Point
	if len(l) > 0 {
		end := l[len(l)-1]
		first, last = api.Point{Path: l[0].p}, api.Point{Path: end.p, Off: end.many}
	}
	got, e := point.First(n)
	wantPoint(t, "first", n, nil, got, e, first, len(l) > 0)
	got, e = point.Last(n)
	wantPoint(t, "last", n, nil, got, e, last, len(l) > 0)
}

// wantAround holds what is told of a tree and a path against the tree's leaves.
func wantAround(t *testing.T, n api.Node, l []spot, p []int) {
	t.Helper()
	var ahead, behind api.Point
	isAhead, isBehind := false, false
	for _, s := range l {
		switch c := slices.Compare(s.p, p); {
		case c < 0 && !begins(p, s.p):
			ahead, isAhead = api.Point{Path: s.p, Off: s.many}, true
		case c >= 0 && !isBehind:
			behind, isBehind = api.Point{Path: s.p}, true
		}
	}
	got, e := point.Ahead(n, p)
	wantPoint(t, "ahead", n, p, got, e, ahead, isAhead)
	got, e = point.Behind(n, p)
	wantPoint(t, "behind", n, p, got, e, behind, isBehind)
}

// P7.2: the point ahead of the first leaf's text, and that behind the last one's.
func TestFirstAndLast(t *testing.T) {
	for _, x := range []struct {
		n           api.Node
		first, last api.Point
		is          bool
	}{
		{sample(), pt(0, 1, 0), pt(2, 3, 1, 1, 0, 0), true},
		{elem(leaf("a"), leaf("bc")), pt(0, 0), pt(2, 1), true},
		{elem(leaf("abc"), leaf("")), pt(0, 0), pt(0, 1), true},
		{elem(leaf(""), leaf("abc")), pt(0, 0), pt(3, 1), true},
		{elem(leaf("abc")), pt(0, 0), pt(3, 0), true},
		{elem(elem(elem(leaf("ab")))), pt(0, 0, 0, 0), pt(2, 0, 0, 0), true},
		{elem(elem(), leaf("ab"), elem()), pt(0, 1), pt(2, 1), true},
		{elem(elem(elem()), elem(elem(), leaf("ab")), elem(elem())), pt(0, 1, 1), pt(2, 1, 1), true},
		{elem(leaf("c☃\U0001f600")), pt(0, 0), pt(3, 0), true},
		{leaf("abc"), pt(0), pt(3), true},
		{leaf(""), pt(0), pt(0), true},
		{odd(), pt(0, 1), pt(1, 2), true},
		{oddLeaf(), pt(0), pt(0, 2, 0), true},
		{api.Node{Leaf: true, Text: []rune("ab"), Kids: []api.Node{elem()}}, pt(0), pt(2), true},
		{elem(), api.Point{}, api.Point{}, false},
		{api.Node{}, api.Point{}, api.Point{}, false},
		{elem(elem(), elem(elem())), api.Point{}, api.Point{}, false},
		{api.Node{Text: []rune("ab"), Kids: []api.Node{{Text: []rune("c")}}}, api.Point{}, api.Point{}, false},
	} {
		got, e := point.First(x.n)
		wantPoint(t, "first", x.n, nil, got, e, x.first, x.is)
		got, e = point.Last(x.n)
		wantPoint(t, "last", x.n, nil, got, e, x.last, x.is)
	}
}

// P7.2: the gaps next to a path, whether there is a node at it or not.
func TestAheadAndBehind(t *testing.T) {
	no := pt(-1)
	for _, x := range []struct {
		n             api.Node
		p             []int
		ahead, behind api.Point
	}{
		// Above all leaves, ahead of all, behind all.
		{sample(), nil, no, pt(0, 1, 0)},
		{sample(), path(), no, pt(0, 1, 0)},
		{elem(elem(leaf("a"), leaf("b"))), path(0), no, pt(0, 0, 0)},
		{sample(), path(0), no, pt(0, 1, 0)},
		{sample(), path(-1), no, pt(0, 1, 0)},
		{sample(), path(0, 0), no, pt(0, 1, 0)},
		{sample(), path(4), pt(2, 3, 1, 1, 0, 0), no},
		{sample(), path(5), pt(2, 3, 1, 1, 0, 0), no},
		{sample(), path(4, 0), pt(2, 3, 1, 1, 0, 0), no},
		// An element's.
		{sample(), path(1), no, pt(0, 1, 0)},
		{sample(), path(1, 1), pt(2, 1, 0), pt(0, 1, 1, 0)},
		{sample(), path(3), pt(3, 2), pt(0, 3, 1, 0)},
		{sample(), path(3, 0), pt(3, 2), pt(0, 3, 1, 0)},
		{sample(), path(3, 1, 1), pt(1, 3, 1, 0), pt(0, 3, 1, 1, 0, 0)},
		{sample(), path(3, 1, 2), pt(2, 3, 1, 1, 0, 0), no},
		// A leaf's own.
		{sample(), path(1, 0), no, pt(0, 1, 0)},
		{sample(), path(1, 1, 0), pt(2, 1, 0), pt(0, 1, 1, 0)},
		{sample(), path(1, 2), pt(0, 1, 1, 0), pt(0, 1, 2)},
		{sample(), path(2), pt(3, 1, 2), pt(0, 2)},
		{sample(), path(3, 1, 0), pt(3, 2), pt(0, 3, 1, 0)},
		{sample(), path(3, 1, 1, 0, 0), pt(1, 3, 1, 0), pt(0, 3, 1, 1, 0, 0)},
		// Below a leaf: that one stands above it, and so neither ahead of it nor behind.
		{sample(), path(1, 0, 0), no, pt(0, 1, 1, 0)},
		{sample(), path(1, 0, 9, 9), no, pt(0, 1, 1, 0)},
		{sample(), path(1, 1, 0, 3), pt(2, 1, 0), pt(0, 1, 2)},
		{sample(), path(2, 0), pt(3, 1, 2), pt(0, 3, 1, 0)},
		{sample(), path(2, -1), pt(3, 1, 2), pt(0, 3, 1, 0)},
		{sample(), path(3, 1, 1, 0, 0, 0), pt(1, 3, 1, 0), no},
		// Of a place where no node is.
		{sample(), path(1, 3), pt(3, 1, 2), pt(0, 2)},
		{sample(), path(1, -1), no, pt(0, 1, 0)},
		{sample(), path(1, -1, 5), no, pt(0, 1, 0)},
		{sample(), path(1, 1, -1), pt(2, 1, 0), pt(0, 1, 1, 0)},
		{sample(), path(1, 1, 1), pt(0, 1, 1, 0), pt(0, 1, 2)},
		{sample(), path(1, 9, 9, 9), pt(3, 1, 2), pt(0, 2)},
		{sample(), path(0, 7), no, pt(0, 1, 0)},
		{sample(), path(3, 0, 7), pt(3, 2), pt(0, 3, 1, 0)},
		{sample(), path(3, 2), pt(2, 3, 1, 1, 0, 0), no},
		{sample(), path(math.MaxInt), pt(2, 3, 1, 1, 0, 0), no},
		{sample(), path(math.MinInt), no, pt(0, 1, 0)},
		{sample(), path(math.MinInt, math.MaxInt), no, pt(0, 1, 0)},
		{sample(), path(1, math.MaxInt), pt(3, 1, 2), pt(0, 2)},
		{sample(), path(1, math.MinInt), no, pt(0, 1, 0)},
		{sample(), path(2, math.MinInt), pt(3, 1, 2), pt(0, 3, 1, 0)},
		{sample(), path(1<<32 + 1), pt(2, 3, 1, 1, 0, 0), no},
		{sample(), path(1<<32, 0), pt(2, 3, 1, 1, 0, 0), no},
		// Of a root that is a leaf, of one that is alone, of trees that may not be.
		{leaf("ab"), nil, no, pt(0)},
		{leaf("ab"), path(0), no, no},
		{leaf("ab"), path(-1), no, no},
		{leaf("ab"), path(9, 9), no, no},
		{elem(), nil, no, no},
		{elem(), path(0), no, no},
		{elem(), path(-1), no, no},
		{elem(elem(), elem(elem())), path(1), no, no},
		{elem(elem(), elem(elem())), path(1, 0), no, no},
		{odd(), nil, no, pt(0, 1)},
		{odd(), path(1), no, pt(0, 1)},
		{odd(), path(1, 0), no, pt(0, 1, 0)},
		{odd(), path(1, 1), pt(3, 1, 0), pt(0, 1, 1, 0)},
		{odd(), path(1, 2), pt(0, 1, 1, 0), pt(0, 2)},
		{odd(), path(2), pt(0, 1, 1, 0), pt(0, 2)},
		{odd(), path(2, 0), pt(0, 1, 1, 0), no},
		{odd(), path(3), pt(1, 2), no},
		{oddLeaf(), nil, no, pt(0)},
		{oddLeaf(), path(0), no, pt(0, 1)},
		{oddLeaf(), path(1), no, pt(0, 1)},
		{oddLeaf(), path(2), pt(3, 1), pt(0, 2, 0)},
		{oddLeaf(), path(3), pt(0, 2, 0), no},
		{api.Node{Leaf: true, Text: []rune("ab"), Kids: []api.Node{elem()}}, path(1), no, no},
	} {
		got, e := point.Ahead(x.n, x.p)
		wantPoint(t, "ahead", x.n, x.p, got, e, x.ahead, x.ahead.Off >= 0)
		got, e = point.Behind(x.n, x.p)
		wantPoint(t, "behind", x.n, x.p, got, e, x.behind, x.behind.Off >= 0)
	}
}

// P7.2: of all trees that are known, and all paths near them, or far from them, what the list of their leaves says.
func TestFindKnown(t *testing.T) {
	for _, x := range known() {
		if got := spots(x.n); !slices.EqualFunc(got, x.leaves, func(a, b spot) bool { return slices.Equal(a.p, b.p) && a.many == b.many }) {
			t.Fatalf("%s: the tests' own list is wrong: %v", show(x.n), got)
		}
		wantEnds(t, x.n, x.leaves)
		for _, p := range append(places(3, 5), farPlaces()...) {
			wantAround(t, x.n, x.leaves, p)
		}
		for _, s := range x.leaves {
			for i := -1; i <= 2; i++ {
				wantAround(t, x.n, x.leaves, slices.Concat(s.p, path(i)))
			}
			wantAround(t, x.n, x.leaves, s.p)
		}
	}
}

// P7.2: of all small trees, those with a leaf that has Kids, too, and all paths near them.
func TestFindAll(t *testing.T) {
	for _, n := range trees(5) {
		l := spots(n)
		wantEnds(t, n, l)
		for _, p := range places(3, 3) {
			wantAround(t, n, l, p)
		}
		for _, s := range l {
			for i := -1; i <= 1; i++ {
				wantAround(t, n, l, slices.Concat(s.p, path(i)))
			}
			wantAround(t, n, l, s.p)
		}
	}
}

// P7.2: at the end of what may be: 2^16 levels, with a leaf at each, whose paths together have some 2^31 numbers.
func TestFindDeep(t *testing.T) {
	const levels = 1 << 16
	// From the deepest leaf on: in the one comb all others stand ahead of it, the last one on the level above; in the other one behind it.
	n, deep := comb(levels, false), slices.Concat(slices.Repeat(path(1), levels-2), path(0))
	up := slices.Concat(deep[1:len(deep)-1], path(0))
	wantTold(t, n, nil, "first", pt(0, 0))
	wantTold(t, n, nil, "last", api.Point{Path: deep, Off: 3})
	wantTold(t, n, path(2), "ahead", api.Point{Path: deep, Off: 3})
	wantTold(t, n, path(1), "behind", pt(0, 1, 0))
	wantTold(t, n, deep, "ahead", api.Point{Path: up, Off: 2})
	wantTold(t, n, deep, "behind", api.Point{Path: deep})
	wantTold(t, n, slices.Concat(deep, path(0)), "behind")

	n, deep = comb(levels, true), slices.Repeat(path(0), levels-1)
	up = slices.Concat(deep[2:], path(1))
	wantTold(t, n, nil, "first", api.Point{Path: deep})
	wantTold(t, n, nil, "last", pt(2, 1))
	wantTold(t, n, path(1), "ahead", pt(2, 0, 1))
	wantTold(t, n, path(0), "behind", api.Point{Path: deep})
	wantTold(t, n, deep, "ahead")
	wantTold(t, n, slices.Concat(deep, path(0)), "behind", api.Point{Path: up})
}

// wantTold looks that a call tells the one point, or, if there is none, no point.
func wantTold(t *testing.T, n api.Node, p []int, call string, want ...api.Point) {
	t.Helper()
	got, e := finds()[call](n, p)
	wantPoint(t, call, n, p, got, e, slices.Concat(want, []api.Point{{}})[0], len(want) > 0)
}

// finds are the calls that tell a point of a tree, and, some of them, of a path.
func finds() map[string]func(api.Node, []int) (api.Point, api.Errno) {
	return map[string]func(api.Node, []int) (api.Point, api.Errno){
		"first":  func(n api.Node, _ []int) (api.Point, api.Errno) { return point.First(n) },
		"last":   func(n api.Node, _ []int) (api.Point, api.Errno) { return point.Last(n) },
		"ahead":  point.Ahead,
		"behind": point.Behind,
	}
}

// P7.2: also of many Kids, most of which have no leaf.
func TestFindWide(t *testing.T) {
	const many = 1 << 16
	n := wide(many)
	wantTold(t, n, nil, "first", pt(0, many))
	wantTold(t, n, nil, "last", pt(1, 2*many-1))
	for _, i := range []int{0, 1, many - 1, many} {
		wantTold(t, n, path(i), "ahead")
		wantTold(t, n, path(i), "behind", pt(0, many))
	}
	for _, i := range []int{many + 1, many + 2, 2*many - 1} {
		wantTold(t, n, path(i), "ahead", pt(1, i-1))
		wantTold(t, n, path(i), "behind", pt(0, i))
	}
	for _, i := range []int{2 * many, 2*many + 1, 3*many - 1, 3 * many} {
		wantTold(t, n, path(i), "ahead", pt(1, 2*many-1))
		wantTold(t, n, path(i), "behind")
	}
}

// R2, P7.2: what is told is new: whoever writes into it changes neither the path, nor what is told another time; nor does it change behind the call.
func TestFindNew(t *testing.T) {
	for name, find := range finds() {
		for _, x := range known() {
			for _, p := range append(places(2, 4), path(1, 1, 0), path(3, 1, 1, 0, 0)) {
				n, q := roomy(x.n), withRoom(p, 77)
				before := show(n) + showPath(q)
				want, e := find(x.n, p)
				got, f := find(n, q)
				again, _ := find(n, q)
				spoil(again.Path)
				if show(n)+showPath(q) != before {
					t.Fatalf("%s: %s, %v: what was handed in is changed", name, show(x.n), p)
				}
				spoilTree(n)
				spoil(q)
				if e != f || !equal(got, want) {
					t.Fatalf("%s: %s, %v: %v has become %v", name, show(x.n), p, want, got)
				}
			}
		}
	}
}
