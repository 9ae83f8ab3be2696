package dirty_test

import (
	"fmt"
	"slices"
	"strconv"
	"testing"

	"redline/api"
	"redline/dirty"
	"redline/op"
	"redline/xpath"
)

// number gives each node a property of its own, each element a type, and each other leaf a text.
func number(n *api.Node, next *int) {
	*next++
	n.Props = []api.Prop{{K: "type", V: strconv.Itoa(*next)}}
	if n.Leaf && *next%2 == 0 {
		n.Text = []rune("ab")
	}
	n.Kids = slices.Clone(n.Kids)
	for i := range n.Kids {
		number(&n.Kids[i], next)
	}
}

// docs are all small trees with an element as their root, numbered.
func docs(most int) []api.Node {
	var out []api.Node
	for _, n := range trees(most, false) {
		next := 0
		number(&n, &next)
		if !n.Leaf {
			out = append(out, n)
		}
	}
	return out
}

// at is the node at a path that leads to one.
func at(n api.Node, p []int) api.Node {
	for _, i := range p {
		n = n.Kids[i]
	}
	return n
}

// long is a node's length.
func long(n api.Node) int { return len(n.Kids) + len(n.Text) }

// tries are operations of all kinds at a path, many of which can be done, where a node stands, or just behind the last one.
func tries(n api.Node, p []int, all [][]int) []api.Op {
	var out []api.Op
	for _, x := range []api.Node{leaf("x"), elem(), tr(`{type:x}["y"[[]"z"]]`)} {
		o := insert(p...)
		o.Node = x
		out = append(out, o)
	}
	if !slices.ContainsFunc(all, func(q []int) bool { return slices.Equal(p, q) }) {
		return out
	}
	x := at(n, p)
	o := remove(p...)
	o.Node = x
	out = append(out, o)
	for pos := range 4 {
		o := merge(pos, p...)
		o.Old = x.Props
		out = append(out, o, split(pos, p...))
	}
	o = set(p...)
	o.Old, o.New = x.Props, []api.Prop{{K: "type", V: "s"}}
	out = append(out, o)
	for _, of := range []api.Op{put(p...), take(p...)} {
		of.Text = x.Text
		out = append(out, of)
		of.Text = []rune("b")
		out = append(out, of)
	}
	for _, to := range all {
		out = append(out, move(p, to), move(p, slices.Concat(to, path(0))), move(p, slices.Concat(to, path(1))))
	}
	return out
}

// eachDone looks at each operation that can be done on each small tree, and at the tree behind it; it tells how many there were of each kind.
func eachDone(most int, look func(n api.Node, o api.Op, m api.Node)) map[int]int {
	many := map[int]int{}
	for _, n := range docs(most) {
		all := paths(nil)
		for _, p := range places(most, most) {
			if len(p) > 0 && slices.Min(p) >= 0 && stood(n, p) {
				all = append(all, p)
			}
		}
		try := slices.Clone(all)
		for _, p := range all {
			try = append(try, slices.Concat(p, path(len(at(n, p).Kids))))
		}
		for _, p := range try {
			for _, o := range append(tries(n, p, all), choose()) {
				if m, _, e := op.Apply(n, api.Sel{}, o); e == api.OK {
					many[o.Kind]++
					look(n, o, m)
				}
			}
		}
	}
	return many
}

// stood tells whether a node stands at a path.
func stood(n api.Node, p []int) bool {
	for _, i := range p {
		if i >= len(n.Kids) {
			return false
		}
		n = n.Kids[i]
	}
	return true
}

// P13.3: of all elements ahead of an operation all that are behind it are told: each stands where it goes, or is marked, since it is new.
func TestAllStepToAll(t *testing.T) {
	many := eachDone(5, func(n api.Node, o api.Op, m api.Node) {
		wantSet(t, what(n, o), dirty.Step(m, dirty.All(n), o), elementsOf(m))
	})
	for _, kind := range kinds() {
		if many[kind] < 10 {
			t.Errorf("kind %d: only %d were done", kind, many[kind])
		}
	}
}

// own is what may be wrong with an element: it hangs on its type, and on its Kids' kinds, properties, and whether they have Text.
func own(n api.Node) string {
	s := fmt.Sprint(n.Props)
	for _, k := range n.Kids {
		s += fmt.Sprint("; ", k.Leaf, k.Props, len(k.Text) > 0)
	}
	return s
}

// P13.2: an element that is not marked is as one was ahead of the operation that goes to where it stands: the operation has made nothing wrong with it.
func TestMarksAllThatDiffer(t *testing.T) {
	eachDone(5, func(n api.Node, o api.Op, m api.Node) {
		was := map[string][]string{}
		for _, p := range elementsOf(n) {
			if q, is := xpath.Move(p, o); is {
				was[fmt.Sprint(q)] = append(was[fmt.Sprint(q)], own(at(n, p)))
			}
		}
		marked := dirty.Marks(m, o)
		for _, q := range elementsOf(m) {
			if slices.ContainsFunc(marked, func(p []int) bool { return slices.Equal(p, q) }) {
				continue
			}
			if !slices.Equal(was[fmt.Sprint(q)], []string{own(at(m, q))}) {
				t.Fatalf("%s: %v is not marked", what(n, o), q)
			}
		}
	})
}

// P13.3: step by step, from none on, as a batch is gone along with.
func TestStepByStep(t *testing.T) {
	n, l := tr(`["a"[["b"]"c"][]]`), [][]int(nil)
	for i, x := range []struct {
		o       api.Op
		n       string
		l, next [][]int
	}{
		{api.Op{Kind: api.InsertText, Path: path(1, 1), Text: []rune("x")}, `["a"[["b"]"xc"][]]`, paths(path(1)), paths(path(1))},
		{api.Op{Kind: api.InsertNode, Path: path(0), Node: tr(`[["d"]]`)}, `[[["d"]]"a"[["b"]"xc"][]]`, paths(nil, path(0), path(0, 0), path(2)), paths(nil)},
		{api.Op{Kind: api.SplitNode, Path: path(2), Pos: 1}, `[[["d"]]"a"[["b"]]["xc"][]]`, paths(nil, path(0), path(0, 0), path(2), path(3)), paths(nil)},
		{api.Op{Kind: api.MoveNode, Path: path(2, 0), To: path(0, 0)}, `[[["b"]["d"]]"a"[]["xc"][]]`, paths(nil, path(0), path(0, 1), path(2), path(3)), paths(nil)},
		{api.Op{Kind: api.RemoveNode, Path: path(1), Node: leaf("a")}, `[[["b"]["d"]][]["xc"][]]`, paths(nil, path(0), path(0, 1), path(1), path(2)), paths(nil)},
		{api.Op{Kind: api.MergeNode, Path: path(2)}, `[[["b"]["d"]]["xc"][]]`, paths(nil, path(0), path(0, 1), path(1)), paths(nil)},
		{api.Op{Kind: api.RemoveText, Path: path(1, 0), Text: []rune("x")}, `[[["b"]["d"]]["c"][]]`, paths(nil, path(0), path(0, 1), path(1)), paths(nil)},
		{api.Op{Kind: api.SetNode, Path: path(2), New: []api.Prop{{K: "type", V: "p"}}}, `[[["b"]["d"]]["c"]{type:p}[]]`, paths(nil, path(0), path(0, 1), path(1), path(2)), paths(nil)},
		{api.Op{Kind: api.RemoveNode, Path: path(0), Node: tr(`[["b"]["d"]]`)}, `[["c"]{type:p}[]]`, paths(nil, path(0), path(1)), paths(nil)},
	} {
		m, _, e := op.Apply(n, api.Sel{}, x.o)
		if want := tr(x.n); e != api.OK || fmt.Sprint(m) != fmt.Sprint(want) {
			t.Fatalf("%d: got %d, %v", i, e, m)
		}
		n, l = m, dirty.Step(m, l, x.o)
		wantSet(t, fmt.Sprint(i), l, x.l)
		wantReady(t, l, x.next)
	}
}
