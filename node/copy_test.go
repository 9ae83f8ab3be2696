package node_test

import (
	"testing"

	"redline/api"
	"redline/node"
)

// copied are trees that may be, and trees that may not.
func copied() []api.Node {
	return append(trees(3, faces([][]api.Prop{nil, props("", "A", "type", "p")}, [][]rune{nil, {'a', -1}})),
		sample(),
		api.Node{Props: []api.Prop{}, Text: []rune{}, Kids: []api.Node{}},
		api.Node{Leaf: true, Text: []rune("a"), Kids: []api.Node{leaf("b", "c", "d")}},
		chain(100, leaf("abc", "a", "1")))
}

// P4.2, P4.3: a copy is the same.
func TestCopySame(t *testing.T) {
	for _, n := range copied() {
		got := node.Copy(n)
		if show(got) != show(n) || !node.Same(got, n) || !node.Same(n, got) {
			t.Fatalf("%s: got %s", show(n), show(got))
		}
		if node.Size(got) != node.Size(n) || node.Check(got) != node.Check(n) || node.Type(got) != node.Type(n) || string(node.Text(got)) != string(node.Text(n)) {
			t.Fatalf("%s: another one is told of its copy", show(n))
		}
	}
}

// P4.2, R2: a copy shares no list with what it was made of, at any depth, not even behind a list's end, nor do two lists of it.
func TestCopySharesNothing(t *testing.T) {
	twice := sample()
	twice = elem(twice.Props, twice, twice, elem(nil, twice.Kids...))
	for _, n := range append(copied(), twice) {
		n = roomy(n)
		seen := map[any]bool{}
		for _, p := range places(n) {
			seen[p] = true
		}
		for _, p := range places(node.Copy(n)) {
			if seen[p] {
				t.Fatalf("%s: something is shared", show(n))
			}
			seen[p] = true
		}
	}
	// A tree some nodes of which share their lists: its copy's share none.
	seen := map[any]bool{}
	for _, p := range places(node.Copy(twice)) {
		if seen[p] {
			t.Fatal("two lists of a copy are shared")
		}
		seen[p] = true
	}
}

// P4.3: a copy stays, whatever is done to what it was made of, and the other way round.
func TestCopyStays(t *testing.T) {
	for _, n := range copied() {
		n = roomy(n)
		before, kept := show(n), show(whole(n))
		got := node.Copy(n)
		spoil(node.Copy(n))
		if show(whole(n)) != kept {
			t.Fatalf("%s: what was copied is changed: %s", before, show(n))
		}
		spoil(n)
		if show(got) != before {
			t.Fatalf("%s: the copy is changed: %s", before, show(got))
		}
	}
}

// P4.3: each single thing that is done to a node, however deep, leaves its copy as it was.
func TestCopyStaysByAndBy(t *testing.T) {
	for at := range flat(sample()) {
		for i, do := range []func(*api.Node){
			func(n *api.Node) { n.Leaf = !n.Leaf },
			func(n *api.Node) { n.Props = append(n.Props[:0], api.Prop{K: "z"}) },
			func(n *api.Node) { n.Text = append(n.Text[:0], 'z') },
			func(n *api.Node) { n.Kids = append(n.Kids[:0], leaf("z")) },
		} {
			n := sample()
			got := node.Copy(n)
			do(nth(&n, at))
			if show(got) != show(sample()) {
				t.Errorf("node %d, %d: got %s", at, i, show(got))
			}
			if node.Same(got, n) {
				t.Errorf("node %d, %d: nothing was done", at, i)
			}
		}
	}
}

// P4.2: also a deep tree and a wide one are copied whole.
func TestCopyGreat(t *testing.T) {
	for i, n := range []api.Node{chain(1<<16-1, leaf("abc", "a", "1")), wide(1 << 17), {Leaf: true, Text: make([]rune, 1<<20)}} {
		got := node.Copy(n)
		if !node.Same(got, n) || node.Size(got) != node.Size(n) {
			t.Errorf("%d: not the same", i)
		}
	}
}

// R2: no call changes what it is handed, nor what stands behind its ends.
func TestNothingIsChanged(t *testing.T) {
	bad := elem(nil, sample(), leaf("a", "", ""), api.Node{Text: []rune("a")}, api.Node{Leaf: true, Text: []rune{-1}, Kids: []api.Node{{}}})
	for _, n := range []api.Node{{}, leaf("abc", "a", "1"), sample(), bad} {
		wantKept(t, n, func(n api.Node) { node.Size(n) })
		wantKept(t, n, func(n api.Node) { node.Check(n) })
		wantKept(t, n, func(n api.Node) { node.Type(n) })
		wantKept(t, n, func(n api.Node) { node.Text(n) })
		wantKept(t, n, func(n api.Node) { node.Copy(n) })
		wantKept(t, n, func(n api.Node) { node.Same(n, sample()) })
		wantKept(t, n, func(n api.Node) { node.Same(sample(), n) })
	}
}
