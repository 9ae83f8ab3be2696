package xpoint_test

import (
	"slices"
	"testing"

	"redline/api"
	"redline/xpoint"
)

// item is a node of a tree on which the operations are done plainly. A mark in a leaf's text is a point: it takes no room, and goes with what it stands beside.
type item struct {
	leaf bool
	text []rune
	kids []*item
}

const mark = '|'

// shapes tells all trees of so many items; those without kids are leaves.
func shapes(many int) []*item {
	var out []*item
	for _, kids := range rows(many - 1) {
		out = append(out, &item{leaf: len(kids) == 0, kids: kids})
	}
	return out
}

// rows tells all lists of trees that have so many items together.
func rows(many int) [][]*item {
	if many == 0 {
		return [][]*item{nil}
	}
	var out [][]*item
	for first := 1; first <= many; first++ {
		for _, one := range shapes(first) {
			for _, rest := range rows(many - first) {
				out = append(out, slices.Concat([]*item{one}, rest))
			}
		}
	}
	return out
}

// filled is a tree like another one, of its own, whose leaves have texts of 0 to 2 runes, one after the other, from some number on.
func filled(n *item, from *int) *item {
	out := &item{leaf: n.leaf}
	if n.leaf {
		out.text = []rune("ab")[:*from%3]
		*from++
	}
	for _, k := range n.kids {
		out.kids = append(out.kids, filled(k, from))
	}
	return out
}

// marked is a tree like another one, of its own, with a mark at a point of it.
func marked(n *item, p api.Point) *item {
	out := copied(n)
	x := find(out, p.Path)
	x.text = slices.Insert(x.text, p.Off, mark)
	return out
}

func copied(n *item) *item {
	out := &item{n.leaf, slices.Clone(n.text), nil}
	for _, k := range n.kids {
		out.kids = append(out.kids, copied(k))
	}
	return out
}

// visit goes through a tree, each node ahead of its kids.
func visit(n *item, p []int, look func(*item, []int)) {
	look(n, p)
	for i, k := range n.kids {
		visit(k, slices.Concat(p, path(i)), look)
	}
}

// gaps tells all points of a tree, in order.
func gaps(n *item) []api.Point {
	var out []api.Point
	visit(n, nil, func(x *item, p []int) {
		for off := range len(x.text) + 1 {
			if x.leaf {
				out = append(out, pt(off, p...))
			}
		}
	})
	return out
}

// found tells where a tree's mark stands, if it has one.
func found(n *item) answer {
	var out answer
	visit(n, nil, func(x *item, p []int) {
		if off := slices.Index(x.text, mark); off >= 0 {
			out = at(off, p...)
		}
	})
	return out
}

func find(n *item, p []int) *item {
	for _, i := range p {
		n = n.kids[i]
	}
	return n
}

// up is the item above a path's, and which of its kids the path is of.
func up(n *item, p []int) (*item, int) {
	return find(n, p[:len(p)-1]), p[len(p)-1]
}

func putIn(n *item, p []int, x *item) {
	over, i := up(n, p)
	over.kids = slices.Insert(over.kids, i, x)
}

func takeOut(n *item, p []int) *item {
	over, i := up(n, p)
	x := over.kids[i]
	over.kids = slices.Delete(over.kids, i, i+1)
	return x
}

// place tells where in a text so many runes end: behind a mark there, but a forward one's ahead of it, so that what comes there pushes it on.
func place(text []rune, runes, aff int) int {
	if m := slices.Index(text, mark); m >= 0 && (m < runes || m == runes && aff != api.ForwardA) {
		return runes + 1
	}
	return runes
}

// halve splits an item; a mark just there without an affinity is lost.
func halve(n *item, o api.Op, aff int) {
	x := find(n, o.Path)
	next := &item{leaf: x.leaf}
	if x.leaf {
		if aff == api.NoneA && slices.Index(x.text, mark) == o.Pos {
			x.text = slices.Delete(x.text, o.Pos, o.Pos+1)
		}
		i := place(x.text, o.Pos, aff)
		x.text, next.text = slices.Clone(x.text[:i]), slices.Clone(x.text[i:])
	} else {
		x.kids, next.kids = slices.Clone(x.kids[:o.Pos]), slices.Clone(x.kids[o.Pos:])
	}
	putIn(n, with(o.Path, len(o.Path)-1, o.Path[len(o.Path)-1]+1), next)
}

// without is a text without so many runes from some place on; a mark among them stays.
func without(text []rune, pos, many int) []rune {
	var out []rune
	i := 0
	for _, r := range text {
		if r == mark || i < pos || i >= pos+many {
			out = append(out, r)
		}
		if r != mark {
			i++
		}
	}
	return out
}

// done does an operation on a tree whose mark has an affinity.
func done(n *item, o api.Op, aff int) {
	switch o.Kind {
	case api.InsertNode:
		putIn(n, o.Path, &item{leaf: true})
	case api.RemoveNode:
		takeOut(n, o.Path)
	case api.MergeNode:
		x := takeOut(n, o.Path)
		over, i := up(n, o.Path)
		by := over.kids[i-1]
		by.text, by.kids = slices.Concat(by.text, x.text), slices.Concat(by.kids, x.kids)
	case api.SplitNode:
		halve(n, o, aff)
	case api.MoveNode:
		putIn(n, o.To, takeOut(n, o.Path))
	case api.InsertText:
		x := find(n, o.Path)
		x.text = slices.Insert(x.text, place(x.text, o.Pos, aff), o.Text...)
	case api.RemoveText:
		x := find(n, o.Path)
		x.text = without(x.text, o.Pos, len(o.Text))
	}
}

// free tells all paths at which an item can be put in.
func free(n *item) [][]int {
	var out [][]int
	visit(n, nil, func(x *item, p []int) {
		for i := range len(x.kids) + 1 {
			if !x.leaf {
				out = append(out, slices.Concat(p, path(i)))
			}
		}
	})
	return out
}

// texts tells all operations that can be done on a leaf's text.
func texts(x *item, p []int) []api.Op {
	var out []api.Op
	for pos := range len(x.text) + 1 {
		for many := range 3 {
			out = append(out, put(pos, many, p...))
		}
		for many := range len(x.text) - pos + 1 {
			out = append(out, take(pos, many, p...))
		}
	}
	return out
}

// able tells all operations that can be done on a tree, and move points.
func able(n *item) []api.Op {
	var out []api.Op
	for _, p := range free(n) {
		out = append(out, insert(p...))
	}
	visit(n, nil, func(x *item, p []int) {
		if x.leaf {
			out = append(out, texts(x, p)...)
		}
		if len(p) == 0 {
			return
		}
		out = append(out, remove(p...))
		for pos := range len(x.text) + len(x.kids) + 1 {
			out = append(out, split(pos, p...))
		}
		if over, i := up(n, p); i > 0 && over.kids[i-1].leaf == x.leaf {
			by := over.kids[i-1]
			out = append(out, merge(len(by.text)+len(by.kids), p...))
		}
		rest := copied(n)
		takeOut(rest, p)
		for _, to := range free(rest) {
			out = append(out, move(p, to))
		}
	})
	return out
}

// inTrees looks at each small tree, and each operation that can be done on it.
func inTrees(look func(*item, api.Op)) {
	for many := 1; many <= 6; many++ {
		for _, n := range shapes(many) {
			for from := range 3 {
				n := filled(n, &from)
				for _, o := range able(n) {
					look(n, o)
				}
			}
		}
	}
}

// P9.1: in each small tree, behind each operation that can be done on it, each point stands where its mark does, if that is still there.
func TestInTrees(t *testing.T) {
	inTrees(func(n *item, o api.Op) {
		for _, p := range gaps(n) {
			for _, aff := range affs() {
				own := marked(n, p)
				done(own, o, aff)
				wantMove(t, p, o, aff, found(own))
			}
		}
	})
}

// P9.2: in each small tree its points stay in order, whatever is done, but what is moved as a whole.
func TestOrderInTrees(t *testing.T) {
	inTrees(func(n *item, o api.Op) {
		if o.Kind != api.MoveNode {
			wantOrder(t, gaps(n), o)
		}
	})
}

// P9.2: in each small tree what a text put in moves, its being taken out moves back.
func TestTextBackInTrees(t *testing.T) {
	inTrees(func(n *item, o api.Op) {
		if o.Kind != api.InsertText {
			return
		}
		back := o
		back.Kind = api.RemoveText
		for _, p := range gaps(n) {
			for _, aff := range affs() {
				wantBack(t, p, o, back, aff)
			}
		}
	})
}

// P9.1: in each small tree what is told is a point of the tree behind the operation.
func TestStaysInTrees(t *testing.T) {
	inTrees(func(n *item, o api.Op) {
		own := copied(n)
		done(own, o, api.NoneA)
		all := gaps(own)
		for _, p := range gaps(n) {
			for _, aff := range affs() {
				got, is := xpoint.Move(p, o, aff)
				if is && !slices.ContainsFunc(all, func(g api.Point) bool { return alike(g, got) }) {
					t.Fatalf("%s, %d: %s is no point of the tree", what(p, o), aff, spot(got))
				}
			}
		}
	})
}
