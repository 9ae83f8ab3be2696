package dirty_test

import (
	"testing"

	"redline/api"
	"redline/dirty"
)

// P13.1: the paths of all elements, of trees of several levels, of a single element, and of a leaf, which has none.
func TestAll(t *testing.T) {
	for _, x := range []struct {
		n    api.Node
		want [][]int
	}{
		{api.Node{}, paths(nil)},
		{tr(`{type:p}[]`), paths(nil)},
		{leaf(""), nil},
		{leaf("abc"), nil},
		{tr(`["a"]`), paths(nil)},
		{tr(`["a""b"{bold:1}"c"]`), paths(nil)},
		{tr(`[[]]`), paths(nil, path(0))},
		{tr(`["a"[]"b"[]]`), paths(nil, path(1), path(3))},
		{tr(`[["a""b"]"c"[[]"d"]]`), paths(nil, path(0), path(2), path(2, 0))},
		{tr(`[["a"["b"[]]]"c"[]["d"["e"][["f"]]]]`), paths(nil, path(0), path(0, 1), path(0, 1, 1), path(2), path(3), path(3, 1), path(3, 2), path(3, 2, 0))},
		{tr(`[[[[["a"]]]]]`), paths(nil, path(0), path(0, 0), path(0, 0, 0), path(0, 0, 0, 0))},
		{tr(`[[][][][][][][][][][][[]]]`), paths(nil, path(0), path(1), path(2), path(3), path(4), path(5), path(6), path(7), path(8), path(9), path(10), path(10, 0))},
	} {
		wantSet(t, show(x.n), dirty.All(x.n), x.want)
	}
}

// P13.1: of all small trees, also of such that may not be: what stands in a leaf is of the tree, too.
func TestAllSmall(t *testing.T) {
	for _, n := range trees(6, true) {
		wantSet(t, show(n), dirty.All(n), elementsOf(n))
	}
}

// P13.1: of wide and of deep trees.
func TestAllGreat(t *testing.T) {
	want := paths(nil)
	for i := range 1 << 18 {
		want = append(want, path(i))
	}
	wantSet(t, "wide", dirty.All(wide(1<<18, elem(leaf("a")))), want)
	wantSet(t, "leaves", dirty.All(wide(1<<18, leaf("a"))), paths(nil))
	down := make([]int, 1<<12)
	want = nil
	for i := range down {
		want = append(want, down[:i])
	}
	wantSet(t, "deep", dirty.All(chain(1<<12, leaf("a"))), want)
	// The paths of all its leaves are 2^31 numbers together, those of its elements few.
	wantSet(t, "deep and wide", dirty.All(chain(1<<12-1, wide(1<<19, leaf("")))), want)
}
