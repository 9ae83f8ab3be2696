package tree_test

import (
	"slices"
	"testing"

	"redline/api"
	"redline/tree"
)

func equal(a, b [][]int) bool {
	return slices.EqualFunc(a, b, func(a, b []int) bool { return slices.Equal(a, b) })
}

// P5.3: the paths of all nodes, each ahead of its Kids', in order, and those of the leaves.
func TestPaths(t *testing.T) {
	for _, x := range []struct {
		n           api.Node
		all, leaves [][]int
	}{
		{api.Node{}, [][]int{nil}, nil},
		{typed("p"), [][]int{nil}, nil},
		{leaf(""), [][]int{nil}, [][]int{nil}},
		{leaf("abc", "a", "1"), [][]int{nil}, [][]int{nil}},
		{elem(leaf("a")), [][]int{nil, path(0)}, [][]int{path(0)}},
		{elem(elem()), [][]int{nil, path(0)}, nil},
		{elem(leaf("a"), leaf("b"), leaf("c")), [][]int{nil, path(0), path(1), path(2)}, [][]int{path(0), path(1), path(2)}},
		{elem(elem(leaf("a")), leaf("b")), [][]int{nil, path(0), path(0, 0), path(1)}, [][]int{path(0, 0), path(1)}},
		{elem(leaf("a"), elem(elem(), leaf("b")), elem()),
			[][]int{nil, path(0), path(1), path(1, 0), path(1, 1), path(2)}, [][]int{path(0), path(1, 1)}},
		{sample(), [][]int{nil, path(0), path(1), path(1, 0), path(1, 1), path(1, 2), path(1, 2, 0), path(1, 2, 1), path(2), path(3), path(3, 0), path(3, 0, 0), path(3, 0, 0, 0)},
			[][]int{path(0), path(1, 0), path(1, 2, 0), path(1, 2, 1), path(3, 0, 0, 0)}},
		{odd(), [][]int{nil, path(0), path(0, 0), path(0, 1), path(0, 1, 0), path(1)}, [][]int{path(0), path(0, 0), path(0, 1, 0), path(1)}},
	} {
		if got := tree.Paths(x.n); !equal(got, x.all) {
			t.Errorf("%s: got %v, want %v", show(x.n), got, x.all)
		}
		if got := tree.Leaves(x.n); !equal(got, x.leaves) {
			t.Errorf("%s: leaves: got %v, want %v", show(x.n), got, x.leaves)
		}
	}
}

// P5.3: of all small trees, what the rows say.
func TestPathsAll(t *testing.T) {
	for _, n := range trees(5, true) {
		var all, leaves [][]int
		for _, r := range rows(n) {
			all = append(all, r.p)
			if r.face[:4] == "true" {
				leaves = append(leaves, r.p)
			}
		}
		if got := tree.Paths(n); !equal(got, all) {
			t.Fatalf("%s: got %v, want %v", show(n), got, all)
		}
		if got := tree.Leaves(n); !equal(got, leaves) {
			t.Fatalf("%s: leaves: got %v, want %v", show(n), got, leaves)
		}
	}
}

// P5.3: also of deep trees and of wide ones.
func TestPathsGreat(t *testing.T) {
	deep := slices.Repeat(path(0), 1<<11)
	got := tree.Paths(chain(len(deep), leaf("a")))
	if len(got) != len(deep)+1 {
		t.Fatalf("got %d", len(got))
	}
	for i, p := range got {
		if !slices.Equal(p, deep[:i]) {
			t.Fatalf("%d: got %.20v", i, p)
		}
	}
	deep = slices.Repeat(path(0), 1<<13)
	if got := tree.Leaves(chain(len(deep), elem(leaf("a"), leaf("b")))); !equal(got, [][]int{slices.Concat(deep, path(0)), slices.Concat(deep, path(1))}) {
		t.Errorf("got %d", len(got))
	}
	n := elem(wide(1<<16), elem(), wide(1<<16))
	var want [][]int
	for _, i := range []int{0, 2} {
		for k := range 1 << 16 {
			want = append(want, path(i, k))
		}
	}
	if got := tree.Leaves(n); !equal(got, want) {
		t.Errorf("leaves: got %d", len(got))
	}
	want = slices.Concat([][]int{nil, path(0)}, want[:1<<16], [][]int{path(1), path(2)}, want[1<<16:])
	if got := tree.Paths(n); !equal(got, want) {
		t.Errorf("got %d", len(got))
	}
}

// R2, P5.3: each path is a list of its own, also behind its end: whoever writes into one changes no other, nor the tree, nor what is told another time.
func TestPathsNew(t *testing.T) {
	for _, of := range []func(api.Node) [][]int{tree.Paths, tree.Leaves} {
		for _, n := range append(trees(4, false), sample(), odd(), chain(20, elem(leaf("a"), leaf("b"), elem(leaf("c"), leaf("d")))), wide(20)) {
			in := roomy(n)
			before := show(whole(in))
			want := of(n)
			for i := range want {
				got, other := of(in), of(in)
				fill(got[i], -99)
				for k := range got {
					if k != i && !slices.Equal(got[k], want[k]) {
						t.Fatalf("%s: path %d shares with path %d", show(n), k, i)
					}
				}
				if !equal(other, want) {
					t.Fatalf("%s: what is told shares with what was told", show(n))
				}
			}
			got := of(in)
			if show(whole(in)) != before {
				t.Fatalf("%s: the tree is changed", show(n))
			}
			spoil(in)
			if !equal(got, want) {
				t.Fatalf("%s: what was told has changed with the tree", show(n))
			}
		}
	}
}

// R2, P5.3: whoever makes a path longer, as slices grow, changes no other one.
func TestPathsGrow(t *testing.T) {
	for _, of := range []func(api.Node) [][]int{tree.Paths, tree.Leaves} {
		n := chain(9, elem(leaf("a"), elem(leaf("b"), leaf("c"), leaf("d")), leaf("e")))
		want, got := of(n), of(n)
		for i := range got {
			_ = append(got[i], -99, -98)
			if !equal(got, want) {
				t.Fatalf("path %d grows into another one", i)
			}
		}
	}
}
