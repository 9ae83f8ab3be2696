package node_test

import (
	"strings"
	"testing"

	"redline/api"
	"redline/glyph"
	"redline/node"
	"redline/prop"
)

// tooMany are more properties than there may be.
func tooMany() []api.Prop {
	var out []api.Prop
	for c := 'a'; c <= 'a'+api.MaxProps; c++ {
		out = append(out, api.Prop{K: string(c)})
	}
	return out
}

type check struct {
	n    api.Node
	want api.Errno
}

func wantChecked(t *testing.T, all []check) {
	t.Helper()
	for i, x := range all {
		if got := node.Check(x.n); got != x.want {
			t.Errorf("%d: %.200s: got %d, want %d", i, show(x.n), got, x.want)
		}
	}
}

// P4.1: nodes that may be; an empty list is as good as none.
func TestCheckGood(t *testing.T) {
	wantChecked(t, []check{
		{api.Node{}, api.OK},
		{api.Node{Leaf: true}, api.OK},
		{api.Node{Leaf: true, Kids: []api.Node{}}, api.OK},
		{api.Node{Leaf: true, Kids: make([]api.Node, 0, 4), Props: []api.Prop{}, Text: []rune{}}, api.OK},
		{api.Node{Text: []rune{}}, api.OK},
		{api.Node{Text: make([]rune, 0, 4), Props: []api.Prop{}, Kids: []api.Node{}}, api.OK},
		{leaf("abc", "bold", ""), api.OK},
		{leaf("", strings.Repeat("k", api.MaxKey), strings.Repeat("v", api.MaxVal)), api.OK},
		{elem(tooMany()[:api.MaxProps], leaf("")), api.OK},
		{leaf("a", "type", "p"), api.OK},
		{elem(props("type", "")), api.OK},
		{sample(), api.OK},
		{chain(1<<16-1, leaf("a")), api.OK},
	})
}

// P4.1: each error, at the root and deep in the tree.
func TestCheckErrors(t *testing.T) {
	for _, x := range []check{
		{leaf("a", "", ""), api.ErrKey},
		{leaf("a", "A", ""), api.ErrKey},
		{leaf("a", "a", "A"), api.ErrKey},
		{elem(props("a", " ")), api.ErrKey},
		{leaf("a", strings.Repeat("k", api.MaxKey+1), ""), api.ErrKey},
		{leaf("a", "a", strings.Repeat("v", api.MaxVal+1)), api.ErrKey},
		{leaf("a", "b", "", "a", ""), api.ErrArg},
		{elem(props("a", "1", "a", "1")), api.ErrArg},
		{api.Node{Props: tooMany()}, api.ErrLong},
		{api.Node{Leaf: true, Props: tooMany()}, api.ErrLong},
		{api.Node{Leaf: true, Kids: []api.Node{{}}}, api.ErrLeaf},
		{api.Node{Leaf: true, Text: []rune("a"), Kids: []api.Node{leaf("b")}}, api.ErrLeaf},
		{api.Node{Text: []rune("a")}, api.ErrLeaf},
		{api.Node{Text: []rune("a"), Kids: []api.Node{leaf("b")}}, api.ErrLeaf},
		{api.Node{Leaf: true, Text: []rune{-1}}, api.ErrRune},
		{api.Node{Leaf: true, Text: []rune{'a', 'b', 0xd800}}, api.ErrRune},
		{api.Node{Leaf: true, Text: []rune{0x110000, 'a'}}, api.ErrRune},
	} {
		wantChecked(t, []check{x, {elem(nil, x.n), x.want}, {elem(nil, leaf("a"), elem(nil, elem(nil), x.n), leaf("b")), x.want}, {chain(1<<12, x.n), x.want}})
	}
}

// P4.1: of one node its properties come ahead of its kind, and this ahead of its text.
func TestCheckOrderInANode(t *testing.T) {
	bad := []rune{-1}
	wantChecked(t, []check{
		{api.Node{Props: tooMany(), Text: bad}, api.ErrLong},
		{api.Node{Leaf: true, Props: props("", ""), Text: bad, Kids: []api.Node{{}}}, api.ErrKey},
		{api.Node{Leaf: true, Props: props("b", "", "a", ""), Kids: []api.Node{{}}}, api.ErrArg},
		{api.Node{Leaf: true, Props: props("b", "", "a", ""), Text: bad}, api.ErrArg},
		{api.Node{Props: props("a", "A"), Text: []rune("a")}, api.ErrKey},
		{api.Node{Text: bad}, api.ErrLeaf},
		{api.Node{Leaf: true, Text: bad, Kids: []api.Node{{}}}, api.ErrLeaf},
	})
}

// P4.1: a node comes ahead of its Kids, and these one by one, each with all that is in it.
func TestCheckOrderOfNodes(t *testing.T) {
	key, arg, kind, text := leaf("", "A", ""), leaf("", "b", "", "a", ""), api.Node{Text: []rune("a")}, api.Node{Leaf: true, Text: []rune{-1}}
	wantChecked(t, []check{
		{elem(nil, key, text), api.ErrKey},
		{elem(nil, text, key), api.ErrRune},
		{elem(nil, kind, arg), api.ErrLeaf},
		{elem(nil, arg, kind), api.ErrArg},
		{elem(nil, elem(nil, elem(nil, text)), key), api.ErrRune},
		{elem(nil, leaf("a"), elem(nil, leaf("b"), text, kind), key), api.ErrRune},
		{elem(nil, key, elem(nil, text)), api.ErrKey},
		{elem(props("A", ""), text, kind), api.ErrKey},
		{elem(nil, elem(props("b", "", "a", ""), text), kind), api.ErrArg},
		{api.Node{Text: []rune{-1}, Kids: []api.Node{key}}, api.ErrLeaf},
		{api.Node{Leaf: true, Kids: []api.Node{key}}, api.ErrLeaf},
		{api.Node{Leaf: true, Text: []rune{-1}, Kids: []api.Node{key}}, api.ErrLeaf},
		{elem(nil, api.Node{Leaf: true, Kids: []api.Node{text}}, key), api.ErrLeaf},
	})
}

// P4.1: a size of just MaxCap may be; one more is told ahead of all else.
func TestCheckSize(t *testing.T) {
	just := []api.Node{
		{Leaf: true, Text: make([]rune, api.MaxCap-1)},
		wide(api.MaxCap - 1),
		elem(nil, wide(api.MaxCap/2-1), api.Node{Leaf: true, Text: make([]rune, api.MaxCap/2-2)}),
		elem(nil, wide(api.MaxCap/2-1), wide(api.MaxCap/2-2)),
		elem(nil, elem(nil, leaf("a"), elem(nil, api.Node{Leaf: true, Text: make([]rune, api.MaxCap-7)})), leaf("")),
		chain(api.MaxCap/16-1, api.Node{Leaf: true, Text: make([]rune, api.MaxCap/16*15)}),
	}
	wrong := []check{
		{elem(props("", "")), api.ErrKey},
		{elem(props("b", "", "a", "")), api.ErrArg},
		{api.Node{Text: make([]rune, 1)}, api.ErrLeaf},
		{api.Node{Text: []rune{-1}}, api.ErrLeaf},
		{api.Node{Leaf: true, Kids: make([]api.Node, 1)}, api.ErrLeaf},
		{api.Node{Leaf: true, Text: []rune{-1}}, api.ErrRune},
	}
	for _, n := range just {
		if n.Leaf {
			continue
		}
		wantSizeAndCheck(t, n, api.MaxCap, api.OK)
		wantSizeAndCheck(t, elem(nil, n), api.MaxCap+1, api.ErrLong)
		for _, x := range wrong {
			y := elem(x.n.Props, x.n, n)
			wantSizeAndCheck(t, y, api.MaxCap+1+node.Size(x.n), api.ErrLong)
		}
	}
	n := just[0]
	wantSizeAndCheck(t, n, api.MaxCap, api.OK)
	n.Props = props("", "")
	wantSizeAndCheck(t, n, api.MaxCap, api.ErrKey)
	n.Leaf, n.Props = false, nil
	wantSizeAndCheck(t, n, api.MaxCap, api.ErrLeaf)
	n.Text = append(n.Text, 0)
	wantSizeAndCheck(t, n, api.MaxCap+1, api.ErrLong)
	n.Leaf = true
	wantSizeAndCheck(t, n, api.MaxCap+1, api.ErrLong)
	n.Text[0] = -1
	wantSizeAndCheck(t, n, api.MaxCap+1, api.ErrLong)
	n.Text = n.Text[:api.MaxCap-1]
	wantSizeAndCheck(t, n, api.MaxCap, api.ErrRune)
	n.Kids = make([]api.Node, 1)
	wantSizeAndCheck(t, n, api.MaxCap+1, api.ErrLong)
	n.Text = n.Text[1:]
	wantSizeAndCheck(t, n, api.MaxCap, api.ErrLeaf)
}

func wantSizeAndCheck(t *testing.T, n api.Node, size int, e api.Errno) {
	t.Helper()
	if got := node.Size(n); got != size {
		t.Fatalf("got the size %d, want %d", got, size)
	}
	if got := node.Check(n); got != e {
		t.Errorf("of the size %d: got %d, want %d", size, got, e)
	}
}

// wantedCheck tells by the chapter's words what is wrong with a tree that is not too great.
func wantedCheck(n api.Node) api.Errno {
	for _, m := range flat(n) {
		if e := prop.Check(m.Props); e != api.OK {
			return e
		}
		if m.Leaf && len(m.Kids) != 0 {
			return api.ErrLeaf
		}
		if !m.Leaf && len(m.Text) != 0 {
			return api.ErrLeaf
		}
		if e := glyph.Check(m.Text); e != api.OK {
			return e
		}
	}
	return api.OK
}

// P4.1: all small trees with each thing that can be wrong, and each order of two and three.
func TestCheckAll(t *testing.T) {
	among := faces([][]api.Prop{nil, props("a", "1"), props("a", "", "", ""), props("b", "", "a", ""), tooMany()}, [][]rune{nil, {'a'}, {'a', -1}})
	told := map[api.Errno]int{}
	for _, n := range trees(3, among) {
		want := wantedCheck(n)
		told[want]++
		if got := node.Check(n); got != want {
			t.Fatalf("%s: got %d, want %d", show(n), got, want)
		}
	}
	if len(told) != 6 {
		t.Errorf("not all errors are among those that were wanted: %v", told)
	}
}
