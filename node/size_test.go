package node_test

import (
	"testing"

	"redline/api"
	"redline/node"
)

// P4.1: the size is how many nodes and how many runes there are, wherever they stand, also where they may not.
func TestSize(t *testing.T) {
	for i, x := range []struct {
		n    api.Node
		want int
	}{
		{api.Node{}, 1},
		{api.Node{Props: []api.Prop{}, Text: []rune{}, Kids: []api.Node{}}, 1},
		{leaf(""), 1},
		{leaf("abc"), 4},
		{leaf("abc", "bold", "1", "size", "12"), 4},
		{elem(nil, leaf("a"), leaf("bc")), 6},
		{elem(nil, elem(nil), elem(nil)), 3},
		{elem(nil, leaf(""), leaf("")), 3},
		{leaf("é\U0001f600"), 3},
		{api.Node{Leaf: true, Text: []rune{-1, 0xd800, 0x110000}}, 4},
		{api.Node{Text: []rune("ab")}, 3},
		{api.Node{Leaf: true, Text: []rune("ab"), Kids: []api.Node{leaf("c"), elem(nil)}}, 6},
		{elem(props("Not", "A KEY"), leaf("a")), 3},
		{sample(), 21},
		{chain(1<<16-1, leaf("a")), 1<<16 + 1},
		{wide(1 << 20), 1<<20 + 1},
		{api.Node{Leaf: true, Text: make([]rune, 1<<21)}, 1<<21 + 1},
	} {
		if got := node.Size(x.n); got != x.want {
			t.Errorf("%d: got %d, want %d", i, got, x.want)
		}
	}
}

// P4.1: the sizes of all small trees are what is counted one by one.
func TestSizeCounted(t *testing.T) {
	for _, n := range trees(4, plainFaces()) {
		want := 0
		for _, m := range flat(n) {
			want++
			for range m.Text {
				want++
			}
		}
		if got := node.Size(n); got != want {
			t.Fatalf("%s: got %d, want %d", show(n), got, want)
		}
	}
}
