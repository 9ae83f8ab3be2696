package dirty_test

import (
	"fmt"
	"math"
	"slices"
	"testing"

	"redline/api"
	"redline/code"
)

// path makes a path of numbers, paths a list of paths.
func path(l ...int) []int { return l }

func paths(l ...[]int) [][]int { return l }

func leaf(s string) api.Node { return api.Node{Leaf: true, Text: []rune(s)} }

func elem(kids ...api.Node) api.Node { return api.Node{Kids: kids} }

// tr is the tree that a text tells, as code reads it.
func tr(s string) api.Node {
	n, at, e := code.Parse(s)
	if e != api.OK {
		panic(fmt.Sprint(s, " is no tree: ", at, ", ", e))
	}
	return n
}

// The operations of each kind, with the numbers of their Path at the end; of what they have only that which is asked here.
func insert(q ...int) api.Op { return api.Op{Kind: api.InsertNode, Path: q} }

func remove(q ...int) api.Op { return api.Op{Kind: api.RemoveNode, Path: q} }

func merge(pos int, q ...int) api.Op { return api.Op{Kind: api.MergeNode, Path: q, Pos: pos} }

func split(pos int, q ...int) api.Op { return api.Op{Kind: api.SplitNode, Path: q, Pos: pos} }

func move(q, to []int) api.Op { return api.Op{Kind: api.MoveNode, Path: q, To: to} }

func set(q ...int) api.Op { return api.Op{Kind: api.SetNode, Path: q} }

func put(q ...int) api.Op { return api.Op{Kind: api.InsertText, Path: q} }

func take(q ...int) api.Op { return api.Op{Kind: api.RemoveText, Path: q} }

func choose() api.Op { return api.Op{Kind: api.SetSel} }

// kinds are all kinds, strange are some that there are none of.
func kinds() []int {
	return []int{api.InsertNode, api.RemoveNode, api.MergeNode, api.SplitNode, api.MoveNode, api.SetNode, api.InsertText, api.RemoveText, api.SetSel}
}

func strange() []int {
	return []int{math.MinInt, -1 << 32, -256 + api.InsertNode, -1, 0, 10, 11, 256 + api.SplitNode, 1<<32 + api.SetNode, math.MaxInt}
}

// odd are numbers that no small tree has a place for.
func odd() []int {
	return []int{math.MinInt, math.MinInt + 1, -1 << 32, -2, -1, 9, api.MaxCap, api.MaxCap + 1, 1 << 32, 1<<32 + 1, math.MaxInt - 1, math.MaxInt}
}

// elementsOf are the paths of all elements of a tree, sorted, found level by level.
func elementsOf(n api.Node) [][]int {
	type stop struct {
		p []int
		n api.Node
	}
	var out [][]int
	for rest := []stop{{nil, n}}; len(rest) > 0; rest = rest[1:] {
		at := rest[0]
		if !at.n.Leaf {
			out = append(out, at.p)
		}
		for i, k := range at.n.Kids {
			rest = append(rest, stop{slices.Concat(at.p, path(i)), k})
		}
	}
	slices.SortFunc(out, slices.Compare)
	return out
}

// trees are all trees of at most so many nodes, each an element or a leaf; leaves with Kids are among them, if strange ones are asked for.
func trees(most int, strange bool) []api.Node {
	var out []api.Node
	for many := 1; many <= most; many++ {
		out = append(out, treesOf(many, strange)...)
	}
	return out
}

func treesOf(many int, strange bool) []api.Node {
	var out []api.Node
	for _, kids := range forests(many-1, strange) {
		out = append(out, elem(kids...))
		if strange || len(kids) == 0 {
			out = append(out, api.Node{Leaf: true, Kids: kids})
		}
	}
	return out
}

// forests are all lists of trees that have so many nodes together.
func forests(many int, strange bool) [][]api.Node {
	if many == 0 {
		return [][]api.Node{nil}
	}
	var out [][]api.Node
	for first := 1; first <= many; first++ {
		for _, n := range treesOf(first, strange) {
			for _, l := range forests(many-first, strange) {
				out = append(out, slices.Concat([]api.Node{n}, l))
			}
		}
	}
	return out
}

// places are all paths of at most so many numbers, each from -1 to top.
func places(most, top int) [][]int {
	out := paths(nil)
	for from := 0; most > 0; most-- {
		end := len(out)
		for _, p := range out[from:end] {
			for i := -1; i <= top; i++ {
				out = append(out, slices.Concat(p, path(i)))
			}
		}
		from = end
	}
	return out
}

func equal(a, b [][]int) bool {
	return slices.EqualFunc(a, b, func(a, b []int) bool { return slices.Equal(a, b) })
}

// wantSet looks that a list is this one, and that it rises.
func wantSet(t *testing.T, name string, got, want [][]int) {
	t.Helper()
	if !equal(got, want) {
		t.Fatalf("%s: got %s, want %s", name, few(got), few(want))
	}
	for i := range got {
		if i > 0 && slices.Compare(got[i-1], got[i]) >= 0 {
			t.Fatalf("%s: %s does not rise", name, few(got))
		}
	}
}

// few writes down the first paths of a list that may be very long.
func few(l [][]int) string {
	s := fmt.Sprintf("%d: %v", len(l), l[:min(len(l), 20)])
	return s[:min(len(s), 400)]
}

// what names an operation and a tree.
func what(n api.Node, o api.Op) string {
	s := fmt.Sprintf("kind %d at %v, %d, to %v on ", o.Kind, o.Path, o.Pos, o.To)
	s = s[:min(len(s), 200)] + show(n)
	return s[:min(len(s), 400)]
}

// show writes a tree down, as far as it is not great; a leaf is a bar.
func show(n api.Node) string { return shown(n, 9) }

func shown(n api.Node, levels int) string {
	kids := ""
	if levels > 0 {
		for _, k := range n.Kids[:min(len(n.Kids), 20)] {
			kids += shown(k, levels-1)
		}
	}
	switch {
	case !n.Leaf:
		return "[" + kids + "]"
	case kids != "":
		return "|[" + kids + "]"
	}
	return "|"
}

// chain is a node under so many elements, each the only Kid of the one above it.
func chain(above int, n api.Node) api.Node {
	for range above {
		n = elem(n)
	}
	return n
}

// wide is an element with so many nodes of one kind.
func wide(many int, kid api.Node) api.Node {
	return api.Node{Kids: slices.Repeat([]api.Node{kid}, many)}
}
