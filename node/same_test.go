package node_test

import (
	"testing"

	"redline/api"
	"redline/node"
)

// P4.2: the same is what has the same kind, properties, text and Kids; a list that is nil and one that is empty are the same.
func TestSame(t *testing.T) {
	for i, x := range []struct {
		a, b api.Node
		want bool
	}{
		{api.Node{}, api.Node{}, true},
		{api.Node{}, api.Node{Props: []api.Prop{}, Text: []rune{}, Kids: []api.Node{}}, true},
		{api.Node{Leaf: true}, api.Node{Leaf: true, Props: make([]api.Prop, 0, 3), Text: make([]rune, 0, 3), Kids: make([]api.Node, 0, 3)}, true},
		{elem(nil, api.Node{Kids: []api.Node{}}), elem(nil, api.Node{Text: []rune{}, Props: []api.Prop{}}), true},
		{api.Node{Leaf: true}, api.Node{}, false},
		{leaf("a"), leaf("a"), true},
		{leaf("a"), leaf("b"), false},
		{leaf("a"), leaf("ab"), false},
		{leaf("ab"), leaf("ba"), false},
		{leaf("a", "b", "1"), leaf("a", "b", "1"), true},
		{leaf("a", "b", "1"), leaf("a", "b", "2"), false},
		{leaf("a", "b", "1"), leaf("a", "c", "1"), false},
		{leaf("a", "b", "1"), leaf("a"), false},
		{leaf("a", "b", "1", "c", "2"), leaf("a", "b", "1"), false},
		{elem(props("type", "p"), leaf("a")), elem(props("type", "q"), leaf("a")), false},
		{elem(nil, leaf("a"), leaf("b")), elem(nil, leaf("b"), leaf("a")), false},
		{elem(nil, leaf("a"), leaf("b")), elem(nil, leaf("ab")), false},
		{elem(nil, leaf("a"), elem(nil)), elem(nil, elem(nil, leaf("a"))), false},
		{elem(nil, elem(nil, leaf("a")), leaf("b")), elem(nil, elem(nil, leaf("a"), leaf("b"))), false},
		{elem(nil, leaf("")), elem(nil), false},
		{elem(nil, leaf(""), leaf("")), elem(nil, leaf("")), false},
		{sample(), sample(), true},
		{sample(), elem(nil, sample()), false},
		{chain(1<<16-1, leaf("a")), chain(1<<16-1, leaf("a")), true},
		{chain(1<<16-1, leaf("a")), chain(1<<16-1, leaf("b")), false},
		{chain(1<<16-1, leaf("a")), chain(1<<16-2, leaf("a")), false},
	} {
		if node.Same(x.a, x.b) != x.want || node.Same(x.b, x.a) != x.want {
			t.Errorf("%d: want %t", i, x.want)
		}
	}
}

// P4.2: also what may not be is held against what may not be.
func TestSameOfWhatMayNotBe(t *testing.T) {
	among := faces([][]api.Prop{props("", ""), props("b", "", "a", "")}, [][]rune{nil, {-1}, {0xd800}})
	wantSameAsWritten(t, trees(2, among))
	kids := []api.Node{leaf("b")}
	a, b := api.Node{Leaf: true, Text: []rune("a"), Kids: kids}, api.Node{Text: []rune("a"), Kids: kids}
	if !node.Same(a, a) || !node.Same(b, b) || node.Same(a, b) || node.Same(a, leaf("a")) || node.Same(b, elem(nil, kids...)) {
		t.Error("a leaf with Kids, or an element with a text")
	}
}

// P4.2: of all small trees just those are the same that are written alike.
func TestSameAll(t *testing.T) {
	wantSameAsWritten(t, trees(3, plainFaces()))
}

func wantSameAsWritten(t *testing.T, all []api.Node) {
	t.Helper()
	texts := make([]string, len(all))
	for i, n := range all {
		texts[i] = show(n)
	}
	for i, a := range all {
		for k, b := range all {
			if want := texts[i] == texts[k]; node.Same(a, b) != want {
				t.Fatalf("%s and %s: want %t", texts[i], texts[k], want)
			}
		}
	}
}

// P4.2: one thing that differs at any place, however deep, is seen.
func TestSameOneDiffers(t *testing.T) {
	many := len(flat(sample()))
	for at := range many {
		for i, change := range []func(*api.Node){
			func(n *api.Node) { n.Leaf = !n.Leaf },
			func(n *api.Node) { n.Props = append(n.Props, api.Prop{K: "z"}) },
			func(n *api.Node) { n.Text = append(n.Text, 0) },
			func(n *api.Node) { n.Kids = append(n.Kids, api.Node{}) },
			func(n *api.Node) { n.Kids = append([]api.Node{{}}, n.Kids...) },
		} {
			n := sample()
			change(nth(&n, at))
			if node.Same(n, sample()) || node.Same(sample(), n) {
				t.Errorf("node %d, change %d: the same", at, i)
			}
		}
	}
}

// nth is the node of that number, each counted ahead of its Kids.
func nth(n *api.Node, at int) *api.Node {
	for {
		if at == 0 {
			return n
		}
		at--
		for i := range n.Kids {
			if size := len(flat(n.Kids[i])); at >= size {
				at -= size
				continue
			}
			n = &n.Kids[i]
			break
		}
	}
}
