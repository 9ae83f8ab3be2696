package op_test

import (
	"cmp"
	"slices"
	"strconv"

	"redline/api"
	"redline/glyph"
	"redline/node"
	"redline/prop"
)

// The trees here are changed in their place, so that the tests hang on no other layer's way to do so.

// at is the node at a path, nil, if there is none.
func at(n *api.Node, p []int) *api.Node {
	for _, i := range p {
		if i < 0 || i >= len(n.Kids) {
			return nil
		}
		n = &n.Kids[i]
	}
	return n
}

func copied(n api.Node) api.Node {
	n.Props, n.Text, n.Kids = slices.Clone(n.Props), slices.Clone(n.Text), slices.Clone(n.Kids)
	for i, k := range n.Kids {
		n.Kids[i] = copied(k)
	}
	return n
}

// beside is the path so many places further.
func beside(p []int, by int) []int {
	last := len(p) - 1
	return slices.Concat(p[:last], path(p[last]+by))
}

// unless tells an error, unless all is right.
func unless(right bool, e api.Errno) api.Errno {
	if right {
		return api.OK
	}
	return e
}

func putIn(n *api.Node, p []int, x api.Node) api.Errno {
	last := len(p) - 1
	if last < 0 {
		return api.ErrRoot
	}
	up := at(n, p[:last])
	if up == nil {
		return api.ErrPath
	}
	if up.Leaf {
		return api.ErrLeaf
	}
	if p[last] < 0 || p[last] > len(up.Kids) {
		return api.ErrPos
	}
	up.Kids = slices.Insert(up.Kids, p[last], x)
	return api.OK
}

func takeOut(n *api.Node, p []int) (api.Node, api.Errno) {
	last := len(p) - 1
	if last < 0 {
		return api.Node{}, api.ErrRoot
	}
	x := at(n, p)
	if x == nil {
		return api.Node{}, api.ErrPath
	}
	out, up := *x, at(n, p[:last])
	up.Kids = slices.Delete(up.Kids, p[last], p[last]+1)
	return out, api.OK
}

// long is a node's length.
func long(n *api.Node) int {
	if n.Leaf {
		return len(n.Text)
	}
	return len(n.Kids)
}

// do does an operation of any kind but SetSel in its place, and tells the first error of its kind; with an error the tree is of no use.
func do(n *api.Node, o api.Op) api.Errno {
	switch o.Kind {
	case api.InsertNode:
		return cmp.Or(node.Check(o.Node), putIn(n, o.Path, o.Node))
	case api.RemoveNode:
		x, e := takeOut(n, o.Path)
		return cmp.Or(e, unless(sameNode(x, o.Node), api.ErrSame))
	case api.MergeNode:
		return doMerge(n, o)
	case api.SplitNode:
		return cmp.Or(prop.Check(o.New), doSplit(n, o))
	case api.MoveNode:
		x, e := takeOut(n, o.Path)
		return cmp.Or(e, putIn(n, o.To, x))
	case api.SetNode:
		return doSet(n, o)
	}
	return doText(n, o)
}

func doMerge(n *api.Node, o api.Op) api.Errno {
	x, e := takeOut(n, o.Path)
	if e != api.OK {
		return e
	}
	if o.Path[len(o.Path)-1] == 0 {
		return api.ErrPos
	}
	by := at(n, beside(o.Path, -1))
	e = cmp.Or(unless(by.Leaf == x.Leaf, api.ErrLeaf), unless(o.Pos == long(by), api.ErrPos), unless(slices.Equal(o.Old, x.Props), api.ErrSame))
	by.Text, by.Kids = slices.Concat(by.Text, x.Text), slices.Concat(by.Kids, x.Kids)
	return e
}

func doSplit(n *api.Node, o api.Op) api.Errno {
	if len(o.Path) == 0 {
		return api.ErrRoot
	}
	x := at(n, o.Path)
	if x == nil {
		return api.ErrPath
	}
	if o.Pos < 0 || o.Pos > long(x) {
		return api.ErrPos
	}
	half := api.Node{Leaf: x.Leaf, Props: o.New}
	if x.Leaf {
		x.Text, half.Text = slices.Clone(x.Text[:o.Pos]), slices.Clone(x.Text[o.Pos:])
	} else {
		x.Kids, half.Kids = slices.Clone(x.Kids[:o.Pos]), slices.Clone(x.Kids[o.Pos:])
	}
	return putIn(n, beside(o.Path, 1), half)
}

func doSet(n *api.Node, o api.Op) api.Errno {
	if len(o.Path) == 0 {
		return api.ErrRoot
	}
	x := at(n, o.Path)
	if x == nil {
		return api.ErrPath
	}
	l, e := prop.Patch(x.Props, o.Old, o.New)
	x.Props = l
	return e
}

func doText(n *api.Node, o api.Op) api.Errno {
	x := at(n, o.Path)
	if x == nil {
		return api.ErrPath
	}
	if !x.Leaf {
		return api.ErrLeaf
	}
	var e api.Errno
	if o.Kind == api.InsertText {
		x.Text, e = glyph.Insert(x.Text, o.Pos, o.Text)
	} else {
		x.Text, e = glyph.Remove(x.Text, o.Pos, o.Text)
	}
	return e
}

// doneBy is the tree behind an operation that can be done.
func doneBy(n api.Node, o api.Op) api.Node {
	n = copied(n)
	if o.Kind == api.SetSel {
		return n
	}
	if e := do(&n, o); e != api.OK {
		panic(what(n, none(), o) + " can not be done")
	}
	return n
}

// shapes tells all trees of so many nodes; those without Kids are leaves, or elements.
func shapes(many int) []api.Node {
	var out []api.Node
	for _, kids := range rows(many - 1) {
		out = append(out, elem(kids...))
		if len(kids) == 0 {
			out = append(out, leaf(""))
		}
	}
	return out
}

// rows tells all lists of trees that have so many nodes together.
func rows(many int) [][]api.Node {
	if many == 0 {
		return [][]api.Node{nil}
	}
	var out [][]api.Node
	for first := 1; first <= many; first++ {
		for _, one := range shapes(first) {
			for _, rest := range rows(many - first) {
				out = append(out, slices.Concat([]api.Node{one}, rest))
			}
		}
	}
	return out
}

// filled is a tree like another one, of its own: each node but the root has a property by which it is told, and its leaves have texts of 0 to 2 runes, one after the other, from some number on; no two of all its runes are the same.
func filled(n api.Node, from int) api.Node {
	n = copied(n)
	next, id := 'A', 0
	visit(&n, nil, func(x *api.Node, p []int) {
		if len(p) > 0 {
			x.Props = props("id", strconv.Itoa(id))
			id++
		}
		for range from % 3 {
			if x.Leaf {
				x.Text = append(x.Text, next)
				next++
			}
		}
		if x.Leaf {
			from++
		}
	})
	return n
}

// smallTrees are all trees of at most so many nodes whose root is an element, each with several texts.
func smallTrees(most int) []api.Node {
	var out []api.Node
	for many := 1; many <= most; many++ {
		for _, n := range shapes(many) {
			for from := range 3 {
				if !n.Leaf {
					out = append(out, filled(n, from))
				}
			}
		}
	}
	return out
}

// visit goes through a tree, each node ahead of its Kids.
func visit(n *api.Node, p []int, look func(*api.Node, []int)) {
	look(n, p)
	for i := range n.Kids {
		visit(&n.Kids[i], slices.Concat(p, path(i)), look)
	}
}

// gaps tells all points of a tree, in order.
func gaps(n api.Node) []api.Point {
	var out []api.Point
	visit(&n, nil, func(x *api.Node, p []int) {
		for off := range len(x.Text) + 1 {
			if x.Leaf {
				out = append(out, pt(off, p...))
			}
		}
	})
	return out
}

// free tells all paths at which a node can be put in.
func free(n api.Node) [][]int {
	var out [][]int
	visit(&n, nil, func(x *api.Node, p []int) {
		for i := range len(x.Kids) + 1 {
			if !x.Leaf {
				out = append(out, slices.Concat(p, path(i)))
			}
		}
	})
	return out
}

// able tells all operations that can be done on a tree without a selection, but of what is put in no more than samples.
func able(n api.Node) []api.Op {
	out := []api.Op{choose(none(), none())}
	for _, p := range free(n) {
		out = append(out, insert(leaf("tt", "new", "1"), p...), insert(elem(leaf("t"), elem()), p...))
	}
	for _, p := range gaps(n) {
		out = append(out, choose(none(), sel(p, p)))
	}
	visit(&n, nil, func(x *api.Node, p []int) {
		if x.Leaf {
			out = append(out, ableText(x, p)...)
		}
		if len(p) > 0 {
			out = append(out, ableNode(n, x, p)...)
		}
	})
	return out
}

// ableText tells all operations on a leaf's text.
func ableText(x *api.Node, p []int) []api.Op {
	var out []api.Op
	for pos := range len(x.Text) + 1 {
		out = append(out, put(pos, "tt", p...), put(pos, "", p...))
		for end := pos; end <= len(x.Text); end++ {
			out = append(out, take(pos, string(x.Text[pos:end]), p...))
		}
	}
	return out
}

// ableNode tells all operations on a node that is not the root.
func ableNode(n api.Node, x *api.Node, p []int) []api.Op {
	out := []api.Op{remove(copied(*x), p...), set(nil, props("new", "1"), p...), set(x.Props, nil, p...), set(nil, nil, p...)}
	for pos := range long(x) + 1 {
		out = append(out, split(pos, nil, p...), split(pos, props("half", "1"), p...))
	}
	if i := p[len(p)-1]; i > 0 {
		if by := at(&n, beside(p, -1)); by.Leaf == x.Leaf {
			out = append(out, merge(long(by), slices.Clone(x.Props), p...))
		}
	}
	rest := copied(n)
	takeOut(&rest, p)
	for _, to := range free(rest) {
		out = append(out, move(p, to))
	}
	return out
}

// inTrees looks at each small tree, each operation that can be done on it, and the tree behind that.
func inTrees(most int, look func(n, behind api.Node, o api.Op)) {
	for _, n := range smallTrees(most) {
		for _, o := range able(n) {
			look(n, doneBy(n, o), o)
		}
	}
}
