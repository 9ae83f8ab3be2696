package xrange_test

import (
	"slices"

	"redline/api"
)

// shapes tells all trees of so many nodes; those without Kids are leaves, or elements.
func shapes(many int) []api.Node {
	var out []api.Node
	for _, kids := range rows(many - 1) {
		out = append(out, elem(kids...))
		if len(kids) == 0 {
			out = append(out, leaf(""))
		}
	}
	return out
}

// rows tells all lists of trees that have so many nodes together.
func rows(many int) [][]api.Node {
	if many == 0 {
		return [][]api.Node{nil}
	}
	var out [][]api.Node
	for first := 1; first <= many; first++ {
		for _, one := range shapes(first) {
			for _, rest := range rows(many - first) {
				out = append(out, slices.Concat([]api.Node{one}, rest))
			}
		}
	}
	return out
}

// filled is a tree like another one, of its own, whose leaves have texts of 0 to 2 runes, one after the other, from some number on; no two of all its runes are the same.
func filled(n api.Node, from int) api.Node {
	n = copied(n)
	next := 'A'
	visit(&n, nil, func(x *api.Node, _ []int) {
		for range from % 3 {
			if x.Leaf {
				x.Text = append(x.Text, next)
				next++
			}
		}
		if x.Leaf {
			from++
		}
	})
	return n
}

// copied stands here so that the tests hang on no other layer's Copy.
func copied(n api.Node) api.Node {
	n.Text, n.Kids = slices.Clone(n.Text), slices.Clone(n.Kids)
	for i, k := range n.Kids {
		n.Kids[i] = copied(k)
	}
	return n
}

// visit goes through a tree, each node ahead of its Kids.
func visit(n *api.Node, p []int, look func(*api.Node, []int)) {
	look(n, p)
	for i := range n.Kids {
		visit(&n.Kids[i], slices.Concat(p, path(i)), look)
	}
}

// gaps tells all points of a tree, in order.
func gaps(n api.Node) []api.Point {
	var out []api.Point
	visit(&n, nil, func(x *api.Node, p []int) {
		for off := range len(x.Text) + 1 {
			if x.Leaf {
				out = append(out, pt(off, p...))
			}
		}
	})
	return out
}

// inside is the text between the points of a range.
func inside(n api.Node, r api.Range) string {
	start, end := r.Anchor, r.Focus
	if compare(end, start) < 0 {
		start, end = end, start
	}
	var out []rune
	visit(&n, nil, func(x *api.Node, p []int) {
		for off, c := range x.Text {
			if compare(start, pt(off, p...)) <= 0 && compare(pt(off+1, p...), end) <= 0 {
				out = append(out, c)
			}
		}
	})
	return string(out)
}

func find(n *api.Node, p []int) *api.Node {
	for _, i := range p {
		n = &n.Kids[i]
	}
	return n
}

// up is the node above a path's, and which of its Kids the path is of; beside is the path so many Kids further.
func up(n *api.Node, p []int) (*api.Node, int) {
	return find(n, p[:len(p)-1]), p[len(p)-1]
}

func beside(p []int, by int) []int {
	return slices.Concat(p[:len(p)-1], path(p[len(p)-1]+by))
}

func putIn(n *api.Node, p []int, x api.Node) {
	over, i := up(n, p)
	over.Kids = slices.Insert(over.Kids, i, x)
}

func takeOut(n *api.Node, p []int) api.Node {
	over, i := up(n, p)
	x := over.Kids[i]
	over.Kids = slices.Delete(over.Kids, i, i+1)
	return x
}

// done is the tree behind an operation, done plainly.
func done(n api.Node, o api.Op) api.Node {
	n = copied(n)
	switch o.Kind {
	case api.InsertNode:
		putIn(&n, o.Path, o.Node)
	case api.RemoveNode:
		takeOut(&n, o.Path)
	case api.MergeNode:
		x, by := takeOut(&n, o.Path), find(&n, beside(o.Path, -1))
		by.Text, by.Kids = slices.Concat(by.Text, x.Text), slices.Concat(by.Kids, x.Kids)
	case api.SplitNode:
		x := find(&n, o.Path)
		next := api.Node{Leaf: x.Leaf}
		if x.Leaf {
			x.Text, next.Text = slices.Clone(x.Text[:o.Pos]), slices.Clone(x.Text[o.Pos:])
		} else {
			x.Kids, next.Kids = slices.Clone(x.Kids[:o.Pos]), slices.Clone(x.Kids[o.Pos:])
		}
		putIn(&n, beside(o.Path, 1), next)
	case api.MoveNode:
		putIn(&n, o.To, takeOut(&n, o.Path))
	case api.InsertText:
		x := find(&n, o.Path)
		x.Text = slices.Insert(x.Text, o.Pos, o.Text...)
	case api.RemoveText:
		x := find(&n, o.Path)
		x.Text = slices.Delete(x.Text, o.Pos, o.Pos+len(o.Text))
	}
	return n
}

// free tells all paths at which a node can be put in.
func free(n api.Node) [][]int {
	var out [][]int
	visit(&n, nil, func(x *api.Node, p []int) {
		for i := range len(x.Kids) + 1 {
			if !x.Leaf {
				out = append(out, slices.Concat(p, path(i)))
			}
		}
	})
	return out
}

// texts tells all operations that can be done on a leaf's text.
func texts(x *api.Node, p []int) []api.Op {
	var out []api.Op
	for pos := range len(x.Text) + 1 {
		out = append(out, put(pos, 2, p...))
		for many := range len(x.Text) - pos + 1 {
			o := take(pos, many, p...)
			o.Text = slices.Clone(x.Text[pos : pos+many])
			out = append(out, o)
		}
	}
	return out
}

// able tells all operations that can be done on a tree, and those that move no point.
func able(n api.Node) []api.Op {
	out := []api.Op{set(), {Kind: api.SetSel}}
	for _, p := range free(n) {
		o := insert(p...)
		o.Node = leaf("tt")
		out = append(out, o)
	}
	visit(&n, nil, func(x *api.Node, p []int) {
		if x.Leaf {
			out = append(out, texts(x, p)...)
		}
		if len(p) == 0 {
			return
		}
		out = append(out, remove(p...), set(p...))
		for pos := range len(x.Text) + len(x.Kids) + 1 {
			out = append(out, split(pos, p...))
		}
		if over, i := up(&n, p); i > 0 && over.Kids[i-1].Leaf == x.Leaf {
			by := over.Kids[i-1]
			out = append(out, merge(len(by.Text)+len(by.Kids), p...))
		}
		rest := copied(n)
		takeOut(&rest, p)
		for _, to := range free(rest) {
			out = append(out, move(p, to))
		}
	})
	return out
}

// inTrees looks at each small tree, each operation that can be done on it, and the tree behind that.
func inTrees(look func(n, behind api.Node, o api.Op)) {
	for many := 1; many <= 5; many++ {
		for _, n := range shapes(many) {
			for from := range 3 {
				if many == 5 && from != 1 {
					continue
				}
				n := filled(n, from)
				for _, o := range able(n) {
					look(n, done(n, o), o)
				}
			}
		}
	}
}
