package node_test

import (
	"slices"
	"strconv"
	"strings"
	"testing"

	"redline/api"
)

// props makes properties of keys and values, one after the other.
func props(l ...string) []api.Prop {
	var out []api.Prop
	for i := 0; i+1 < len(l); i += 2 {
		out = append(out, api.Prop{K: l[i], V: l[i+1]})
	}
	return out
}

func leaf(s string, l ...string) api.Node {
	return api.Node{Leaf: true, Props: props(l...), Text: []rune(s)}
}

func elem(l []api.Prop, kids ...api.Node) api.Node {
	return api.Node{Props: l, Kids: kids}
}

// show writes a tree down whole, also one that may not be, so that the tests do not hang on Same: two trees are the same just if they are written alike.
func show(n api.Node) string {
	var b strings.Builder
	write(&b, n)
	return b.String()
}

func write(b *strings.Builder, n api.Node) {
	b.WriteString(strconv.FormatBool(n.Leaf) + "{")
	for _, p := range n.Props {
		b.WriteString(strconv.Quote(p.K) + ":" + strconv.Quote(p.V) + " ")
	}
	b.WriteString("}(")
	for _, c := range n.Text {
		b.WriteString(strconv.Itoa(int(c)) + " ")
	}
	b.WriteString(")[")
	for _, k := range n.Kids {
		write(b, k)
	}
	b.WriteString("]")
}

// flat are n and the nodes in it, each ahead of its Kids, told in another way than by calls that call themselves.
func flat(n api.Node) []api.Node {
	var out []api.Node
	for rest := []api.Node{n}; len(rest) > 0; {
		m := rest[0]
		out = append(out, m)
		rest = slices.Concat(m.Kids, rest[1:])
	}
	return out
}

// faces are nodes without Kids, of both kinds, with each of those properties and texts.
func faces(ps [][]api.Prop, texts [][]rune) []api.Node {
	var out []api.Node
	for _, is := range []bool{false, true} {
		for _, p := range ps {
			for _, r := range texts {
				out = append(out, api.Node{Leaf: is, Props: p, Text: r})
			}
		}
	}
	return out
}

// plainFaces are those that most tests build trees of, whether they may be or not.
func plainFaces() []api.Node {
	return faces([][]api.Prop{nil, props("type", "p")}, [][]rune{nil, {'a'}})
}

// trees tells all trees of at most so many nodes whose nodes, but for their Kids, are among those.
func trees(most int, among []api.Node) []api.Node {
	var out []api.Node
	for many := 1; many <= most; many++ {
		out = append(out, treesOf(many, among)...)
	}
	return out
}

func treesOf(many int, among []api.Node) []api.Node {
	var out []api.Node
	for _, kids := range forests(many-1, among) {
		for _, n := range among {
			n.Kids = kids
			out = append(out, n)
		}
	}
	return out
}

// forests tells all lists of trees that have so many nodes together.
func forests(many int, among []api.Node) [][]api.Node {
	if many == 0 {
		return [][]api.Node{nil}
	}
	var out [][]api.Node
	for first := 1; first <= many; first++ {
		rest := forests(many-first, among)
		for _, n := range treesOf(first, among) {
			for _, l := range rest {
				out = append(out, slices.Concat([]api.Node{n}, l))
			}
		}
	}
	return out
}

// chain is a node under so many elements, each the only Kid of the one above it.
func chain(above int, n api.Node) api.Node {
	for range above {
		n = elem(nil, n)
	}
	return n
}

// wide is an element with so many empty leaves.
func wide(many int) api.Node {
	n := api.Node{Kids: make([]api.Node, many)}
	for i := range n.Kids {
		n.Kids[i].Leaf = true
	}
	return n
}

// roomy is a copy of n each list of which has room behind it, with something in that room.
func roomy(n api.Node) api.Node {
	n.Props = withRoom(n.Props, api.Prop{K: "room", V: "room"})
	n.Text = withRoom(n.Text, 0x2603)
	n.Kids = withRoom(n.Kids, leaf("room"))
	for i := range n.Kids {
		n.Kids[i] = roomy(n.Kids[i])
	}
	return n
}

func withRoom[T any](l []T, filler T) []T {
	out := slices.Concat(l, slices.Repeat([]T{filler}, 3))
	return out[:len(l)]
}

// whole is n with each list as far as it has room, to see whether anybody writes there.
func whole(n api.Node) api.Node {
	many := len(n.Kids)
	n.Props = slices.Clone(n.Props[:cap(n.Props)])
	n.Text = slices.Clone(n.Text[:cap(n.Text)])
	n.Kids = slices.Clone(n.Kids[:cap(n.Kids)])
	for i := range many {
		n.Kids[i] = whole(n.Kids[i])
	}
	return n
}

// spoil writes all over a tree, at each depth, the deepest first, also behind the ends of its lists.
func spoil(n api.Node) {
	for _, k := range n.Kids {
		spoil(k)
	}
	for i := range n.Props[:cap(n.Props)] {
		n.Props[:cap(n.Props)][i] = api.Prop{K: "spoilt", V: "spoilt"}
	}
	for i := range n.Text[:cap(n.Text)] {
		n.Text[:cap(n.Text)][i] = '!'
	}
	for i := range n.Kids[:cap(n.Kids)] {
		n.Kids[:cap(n.Kids)][i] = leaf("spoilt")
	}
}

// places are where all that is in the lists of a tree stands, as far as these have room.
func places(n api.Node) []any {
	var out []any
	for i := range n.Props[:cap(n.Props)] {
		out = append(out, &n.Props[:cap(n.Props)][i])
	}
	for i := range n.Text[:cap(n.Text)] {
		out = append(out, &n.Text[:cap(n.Text)][i])
	}
	for i := range n.Kids[:cap(n.Kids)] {
		out = append(out, &n.Kids[:cap(n.Kids)][i])
	}
	for _, k := range n.Kids {
		out = append(out, places(k)...)
	}
	return out
}

// sample is a tree that may be, with something of all kinds at several depths.
func sample() api.Node {
	return elem(props("a", "1", "type", "doc"),
		leaf("ab", "bold", "1"),
		elem(props("type", "p"), leaf("c"), elem(nil), elem(props("b", ""), leaf(""), leaf("de"))),
		elem(nil, elem(nil, elem(nil, leaf("f", "type", "p")))),
		leaf("\x00\U0010ffff"))
}

// wantKept does something with a tree, and looks that it stays as it was, also behind the ends of its lists.
func wantKept(t *testing.T, n api.Node, do func(api.Node)) {
	t.Helper()
	in := roomy(n)
	before := show(whole(in))
	do(in)
	if got := show(whole(in)); got != before {
		t.Errorf("what was handed in is changed: got %s, want %s", got, before)
	}
}
