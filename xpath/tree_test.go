package xpath_test

import (
	"slices"
	"testing"

	"redline/api"
	"redline/xpath"
)

// item is a node of a tree on which the operations are done plainly, to see where each one goes.
type item struct{ kids []*item }

// shapes tells all trees of so many items.
func shapes(many int) []*item {
	var out []*item
	for _, kids := range rows(many - 1) {
		out = append(out, &item{kids})
	}
	return out
}

// rows tells all lists of trees that have so many items together.
func rows(many int) [][]*item {
	if many == 0 {
		return [][]*item{nil}
	}
	var out [][]*item
	for first := 1; first <= many; first++ {
		for _, one := range shapes(first) {
			for _, rest := range rows(many - first) {
				out = append(out, slices.Concat([]*item{one}, rest))
			}
		}
	}
	return out
}

// doubled is a tree of its own, the same as another one, and which item stands for which.
func doubled(n *item, whose map[*item]*item) *item {
	out := &item{}
	whose[n] = out
	for _, k := range n.kids {
		out.kids = append(out.kids, doubled(k, whose))
	}
	return out
}

// stops tells where each item stands.
func stops(n *item, p []int, out map[*item][]int) {
	out[n] = p
	for i, k := range n.kids {
		stops(k, slices.Concat(p, path(i)), out)
	}
}

func find(n *item, p []int) *item {
	for _, i := range p {
		n = n.kids[i]
	}
	return n
}

// up is the item above a path's, and which of its kids the path is of.
func up(n *item, p []int) (*item, int) {
	return find(n, p[:len(p)-1]), p[len(p)-1]
}

func putIn(n *item, p []int, x *item) {
	over, i := up(n, p)
	over.kids = slices.Insert(over.kids, i, x)
}

func takeOut(n *item, p []int) *item {
	over, i := up(n, p)
	x := over.kids[i]
	over.kids = slices.Delete(over.kids, i, i+1)
	return x
}

// free tells all paths at which an item can be put in.
func free(n *item) [][]int {
	at := map[*item][]int{}
	stops(n, nil, at)
	var out [][]int
	for x, p := range at {
		for i := range len(x.kids) + 1 {
			out = append(out, slices.Concat(p, path(i)))
		}
	}
	return out
}

// done does an operation on a tree, and tells which item another one has taken in.
func done(n *item, o api.Op) (in, by *item) {
	switch o.Kind {
	case api.InsertNode:
		putIn(n, o.Path, &item{})
	case api.RemoveNode:
		takeOut(n, o.Path)
	case api.MergeNode:
		over, i := up(n, o.Path)
		in, by = takeOut(n, o.Path), over.kids[i-1]
		by.kids = slices.Concat(by.kids, in.kids)
	case api.SplitNode:
		over, i := up(n, o.Path)
		x := over.kids[i]
		over.kids = slices.Insert(over.kids, i+1, &item{slices.Clone(x.kids[o.Pos:])})
		x.kids = slices.Clone(x.kids[:o.Pos])
	case api.MoveNode:
		putIn(n, o.To, takeOut(n, o.Path))
	}
	return in, by
}

// able tells all operations that move paths, and that can be done on a tree.
func able(n *item) []api.Op {
	at := map[*item][]int{}
	stops(n, nil, at)
	var out []api.Op
	for _, p := range free(n) {
		out = append(out, insert(p...))
	}
	for x, p := range at {
		if len(p) == 0 {
			continue
		}
		out = append(out, remove(p...))
		for pos := range len(x.kids) + 1 {
			out = append(out, split(pos, p...))
		}
		if over, i := up(n, p); i > 0 {
			out = append(out, merge(len(over.kids[i-1].kids), p...))
		}
		rest := doubled(n, map[*item]*item{})
		takeOut(rest, p)
		for _, to := range free(rest) {
			out = append(out, move(p, to))
		}
	}
	return out
}

// P8.1: in each small tree, behind each operation that can be done on it, each node stands where its path is told to go: none is told of those that were taken out, and of one that was taken in the one that took it in.
func TestInTrees(t *testing.T) {
	for many := 1; many <= 6; many++ {
		for _, n := range shapes(many) {
			for _, o := range able(n) {
				wantStops(t, n, o)
			}
		}
	}
}

func wantStops(t *testing.T, n *item, o api.Op) {
	t.Helper()
	whose, ahead, behind := map[*item]*item{}, map[*item][]int{}, map[*item][]int{}
	own := doubled(n, whose)
	stops(n, nil, ahead)
	in, by := done(own, o)
	stops(own, nil, behind)
	for x, p := range ahead {
		y := whose[x]
		if y == in {
			y = by
		}
		want, is := behind[y]
		if got, ok := xpath.Move(p, o); ok != is || !slices.Equal(got, want) {
			t.Fatalf("%s: got %v, %v, want %v, %v", what(p, o), got, ok, want, is)
		}
	}
}
