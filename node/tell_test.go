package node_test

import (
	"slices"
	"testing"

	"redline/api"
	"redline/node"
)

// P4.2: the type is the value of an element's property type; a leaf has none, whatever its properties are.
func TestType(t *testing.T) {
	for i, x := range []struct {
		n    api.Node
		want string
	}{
		{api.Node{}, ""},
		{api.Node{Props: []api.Prop{}}, ""},
		{api.Node{Leaf: true}, ""},
		{elem(props("type", "p")), "p"},
		{elem(props("type", "")), ""},
		{elem(props("a", "1", "type", "li-2", "z", "3")), "li-2"},
		{elem(props("type", "p"), elem(props("type", "q"))), "p"},
		{elem(nil, elem(props("type", "q")), leaf("a", "type", "r")), ""},
		{elem(props("typ", "p", "typea", "q", "z", "type")), ""},
		{elem(props("a", "type")), ""},
		{leaf("a", "type", "p"), ""},
		{leaf("", "type", "p"), ""},
		{elem(props("Type", "p", "TYPE", "q")), ""},
		{elem(props("type", "p", "type", "q")), "p"},
		{elem(props("z", "1", "type", "NO VALUE")), "NO VALUE"},
		{api.Node{Props: props("type", "p"), Text: []rune("a")}, "p"},
		{api.Node{Leaf: true, Props: props("type", "p"), Kids: []api.Node{elem(props("type", "q"))}}, ""},
	} {
		if got := node.Type(x.n); got != x.want {
			t.Errorf("%d: got %q, want %q", i, got, x.want)
		}
	}
}

// P4.2: the texts stand one behind the other, each node's ahead of its Kids', at whatever depth.
func TestText(t *testing.T) {
	for i, x := range []struct {
		n    api.Node
		want string
	}{
		{api.Node{}, ""},
		{leaf(""), ""},
		{leaf("abc"), "abc"},
		{elem(nil, leaf("a"), leaf("bc")), "abc"},
		{elem(nil, leaf("a"), elem(nil, leaf("b"), elem(nil, leaf("c")), leaf("d")), leaf("e")), "abcde"},
		{elem(nil, elem(nil, elem(nil, leaf("x"))), leaf(""), leaf("y")), "xy"},
		{elem(nil, elem(nil), elem(nil, leaf(""))), ""},
		{elem(props("type", "text"), leaf("a", "b", "c")), "a"},
		{sample(), "abcdef\x00\U0010ffff"},
		{api.Node{Text: []rune("a"), Kids: []api.Node{leaf("b"), {Text: []rune("c"), Kids: []api.Node{leaf("d")}}, leaf("e")}}, "abcde"},
		{api.Node{Leaf: true, Text: []rune("a"), Kids: []api.Node{leaf("b"), leaf("c")}}, "abc"},
		{chain(1<<16-1, leaf("a")), "a"},
	} {
		if got := node.Text(x.n); !slices.Equal(got, []rune(x.want)) {
			t.Errorf("%d: got %q, want %q", i, string(got), x.want)
		}
	}
	bad := []rune{-1, 0xd800, 0x110000}
	if got := node.Text(elem(nil, leaf("a"), api.Node{Leaf: true, Text: bad})); !slices.Equal(got, append([]rune{'a'}, bad...)) {
		t.Errorf("got %x", got)
	}
}

// P4.2: the texts of all small trees, each rune another one.
func TestTextAll(t *testing.T) {
	for _, n := range trees(4, faces([][]api.Prop{nil}, [][]rune{nil, {0, 0}})) {
		n = node.Copy(n)
		number(&n, 0)
		var want []rune
		for _, m := range flat(n) {
			want = append(want, m.Text...)
		}
		if got := node.Text(n); !slices.Equal(got, want) || !slices.IsSorted(got) {
			t.Fatalf("%s: got %v, want %v", show(n), got, want)
		}
	}
}

// number puts numbers that rise into the texts, in order.
func number(n *api.Node, from rune) rune {
	for i := range n.Text {
		n.Text[i] = from
		from++
	}
	for i := range n.Kids {
		from = number(&n.Kids[i], from)
	}
	return from
}

// R2: a text that is told is new: whoever writes into it changes no node, and the other way round.
func TestTextIsNew(t *testing.T) {
	for _, n := range []api.Node{leaf("abc"), elem(nil, leaf("abc")), elem(nil, elem(nil), leaf("abc"), leaf("")), sample()} {
		n = roomy(n)
		before := show(whole(n))
		got := node.Text(n)
		want := slices.Clone(got)
		for i := range got[:cap(got)] {
			got[:cap(got)][i] = '!'
		}
		if show(whole(n)) != before {
			t.Errorf("%s: a node was written into", before)
		}
		got = node.Text(n)
		spoil(n)
		if !slices.Equal(got, want) {
			t.Errorf("%s: what was told has changed: %q", before, string(got))
		}
	}
}
