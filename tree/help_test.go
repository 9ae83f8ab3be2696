package tree_test

import (
	"slices"
	"strconv"
	"strings"
	"testing"

	"redline/api"
)

// path makes a path of numbers.
func path(l ...int) []int { return l }

// props makes properties of keys and values, one after the other.
func props(l ...string) []api.Prop {
	var out []api.Prop
	for i := 0; i+1 < len(l); i += 2 {
		out = append(out, api.Prop{K: l[i], V: l[i+1]})
	}
	return out
}

func leaf(s string, l ...string) api.Node {
	return api.Node{Leaf: true, Props: props(l...), Text: []rune(s)}
}

func elem(kids ...api.Node) api.Node {
	return api.Node{Kids: kids}
}

func typed(t string, kids ...api.Node) api.Node {
	return api.Node{Props: props("type", t), Kids: kids}
}

// sample is a tree that may be, with something of all kinds at several depths.
func sample() api.Node {
	return typed("doc",
		leaf("ab", "bold", "1"),
		typed("p", leaf("c"), elem(), typed("q", leaf(""), leaf("de"))),
		elem(),
		elem(elem(elem(leaf("f", "a", "1", "b", "2")))))
}

// odd is a tree that may not be: a leaf with Kids, an element with a text, properties and runes that are none.
func odd() api.Node {
	return api.Node{
		Props: props("z", "", "A", "", "z", ""),
		Text:  []rune{-1, 0xd800},
		Kids: []api.Node{
			{Leaf: true, Text: []rune("a"), Kids: []api.Node{leaf("b"), {Text: []rune("c"), Kids: []api.Node{leaf("d")}}}},
			{Leaf: true, Text: []rune{0x110000}, Props: props("", "")},
		},
	}
}

// face writes down all of a node but its Kids.
func face(n api.Node) string {
	var b strings.Builder
	b.WriteString(strconv.FormatBool(n.Leaf) + "{")
	for _, p := range n.Props {
		b.WriteString(strconv.Quote(p.K) + ":" + strconv.Quote(p.V) + " ")
	}
	b.WriteString("}")
	for _, c := range n.Text {
		b.WriteString(" " + strconv.Itoa(int(c)))
	}
	return b.String()
}

// show writes a tree down whole, also one that may not be: two trees are the same just if they are written alike.
func show(n api.Node) string {
	var b strings.Builder
	var write func(n api.Node)
	write = func(n api.Node) {
		b.WriteString(face(n) + "[")
		for _, k := range n.Kids {
			write(k)
		}
		b.WriteString("]")
	}
	write(n)
	return b.String()
}

// nothing is how a zero node is written.
func nothing() string { return show(api.Node{}) }

// row is a node of a tree that is told as a list: where it stands, and what it has beside its Kids.
type row struct {
	p    []int
	face string
}

// rows tell a tree as a list, sorted by the paths.
func rows(n api.Node) []row {
	type stop struct {
		p []int
		n api.Node
	}
	var out []row
	for rest := []stop{{nil, n}}; len(rest) > 0; rest = rest[1:] {
		at := rest[0]
		out = append(out, row{at.p, face(at.n)})
		for i, k := range at.n.Kids {
			rest = append(rest, stop{slices.Concat(at.p, path(i)), k})
		}
	}
	return sorted(out)
}

func sorted(l []row) []row {
	slices.SortFunc(l, func(a, b row) int { return slices.Compare(a.p, b.p) })
	return l
}

// written are rows as a text: two trees are the same just if their rows are.
func written(l []row) string {
	var b strings.Builder
	for _, r := range l {
		for _, i := range r.p {
			b.WriteString(strconv.Itoa(i) + ".")
		}
		b.WriteString(" " + r.face + "\n")
	}
	return b.String()
}

// begins tells whether q is p, or below it.
func begins(q, p []int) bool {
	return len(q) >= len(p) && slices.Equal(q[:len(p)], p)
}

// rowAt is the row at p, if there is one.
func rowAt(l []row, p []int) (row, bool) {
	at := slices.IndexFunc(l, func(r row) bool { return slices.Equal(r.p, p) })
	if at < 0 {
		return row{}, false
	}
	return l[at], true
}

// kidsAt is how many Kids the node at p has.
func kidsAt(l []row, p []int) int {
	many := 0
	for _, r := range l {
		if len(r.p) == len(p)+1 && begins(r.p, p) {
			many++
		}
	}
	return many
}

// without are the rows that stand neither at p nor below it, and within are those that do, told from p on.
func without(l []row, p []int) []row {
	return slices.DeleteFunc(slices.Clone(l), func(r row) bool { return begins(r.p, p) })
}

func within(l []row, p []int) []row {
	var out []row
	for _, r := range l {
		if begins(r.p, p) {
			out = append(out, row{r.p[len(p):], r.face})
		}
	}
	return out
}

// under puts p ahead of each row's path.
func under(l []row, p []int) []row {
	var out []row
	for _, r := range l {
		out = append(out, row{slices.Concat(p, r.p), r.face})
	}
	return out
}

// shifted moves what stands at p, or behind it under the same parent, by so many places.
func shifted(l []row, p []int, by int) []row {
	last := len(p) - 1
	var out []row
	for _, r := range l {
		if len(r.p) >= len(p) && begins(r.p, p[:last]) && r.p[last] >= p[last] {
			r.p = slices.Clone(r.p)
			r.p[last] += by
		}
		out = append(out, r)
	}
	return out
}

// trees tells all trees of at most so many nodes, each node an element or a leaf, and another one than all others. Those with a leaf that has Kids are told, too, if odd.
func trees(most int, odd bool) []api.Node {
	var out []api.Node
	for many := 1; many <= most; many++ {
		for _, n := range treesOf(many, odd) {
			next := 0
			number(&n, &next)
			out = append(out, n)
		}
	}
	return out
}

func treesOf(many int, odd bool) []api.Node {
	var out []api.Node
	for _, kids := range forests(many-1, odd) {
		out = append(out, elem(kids...))
		if odd || len(kids) == 0 {
			out = append(out, api.Node{Leaf: true, Kids: kids})
		}
	}
	return out
}

// forests tells all lists of trees that have so many nodes together.
func forests(many int, odd bool) [][]api.Node {
	if many == 0 {
		return [][]api.Node{nil}
	}
	var out [][]api.Node
	for first := 1; first <= many; first++ {
		rest := forests(many-first, odd)
		for _, n := range treesOf(first, odd) {
			for _, l := range rest {
				out = append(out, slices.Concat([]api.Node{n}, l))
			}
		}
	}
	return out
}

// number gives each node a list of Kids and a property of its own, so that no two are taken for one another.
func number(n *api.Node, next *int) {
	n.Props = props("k", strconv.Itoa(*next))
	if n.Leaf {
		n.Text = []rune{'a' + rune(*next)}
	}
	*next++
	n.Kids = slices.Clone(n.Kids)
	for i := range n.Kids {
		number(&n.Kids[i], next)
	}
}

// places tells all paths of at most so many numbers, each from -1 to top.
func places(most, top int) [][]int {
	out := [][]int{nil}
	for from := 0; most > 0; most-- {
		end := len(out)
		for _, p := range out[from:end] {
			for i := -1; i <= top; i++ {
				out = append(out, slices.Concat(p, path(i)))
			}
		}
		from = end
	}
	return out
}

// chain is a node under so many elements, each the only Kid of the one above it.
func chain(above int, n api.Node) api.Node {
	for range above {
		n = elem(n)
	}
	return n
}

// wide is an element with so many leaves, each with a text of its own.
func wide(many int) api.Node {
	n := api.Node{Kids: make([]api.Node, many)}
	for i := range n.Kids {
		n.Kids[i] = api.Node{Leaf: true, Text: []rune{rune(i)}}
	}
	return n
}

// roomy is a copy of n each list of which has room behind it, with something in that room.
func roomy(n api.Node) api.Node {
	n.Props = withRoom(n.Props, api.Prop{K: "room", V: "room"})
	n.Text = withRoom(n.Text, 0x2603)
	n.Kids = withRoom(n.Kids, leaf("room"))
	for i := range n.Kids {
		n.Kids[i] = roomy(n.Kids[i])
	}
	return n
}

func withRoom[T any](l []T, filler T) []T {
	return slices.Concat(l, slices.Repeat([]T{filler}, 3))[:len(l)]
}

// whole is n with each list as far as it has room, to see whether anybody writes there.
func whole(n api.Node) api.Node {
	many := len(n.Kids)
	n.Props = slices.Clone(n.Props[:cap(n.Props)])
	n.Text = slices.Clone(n.Text[:cap(n.Text)])
	n.Kids = slices.Clone(n.Kids[:cap(n.Kids)])
	for i := range many {
		n.Kids[i] = whole(n.Kids[i])
	}
	return n
}

// spoil writes all over a tree, at each depth, the deepest first, also behind the ends of its lists.
func spoil(n api.Node) {
	for _, k := range n.Kids {
		spoil(k)
	}
	fill(n.Props, api.Prop{K: "spoilt", V: "spoilt"})
	fill(n.Text, '!')
	fill(n.Kids, leaf("spoilt"))
}

func fill[T any](l []T, filler T) {
	l = l[:cap(l)]
	for i := range l {
		l[i] = filler
	}
}

// spots are where all that is in the lists of a tree stands, as far as these have room.
func spots(n api.Node) []any {
	out := slices.Concat(spotsOf(n.Props), spotsOf(n.Text), spotsOf(n.Kids))
	for _, k := range n.Kids {
		out = append(out, spots(k)...)
	}
	return out
}

func spotsOf[T any](l []T) []any {
	var out []any
	l = l[:cap(l)]
	for i := range l {
		out = append(out, &l[i])
	}
	return out
}

// wantNew looks that what is told shares nothing with what was handed in, and that no two lists of what is told share anything.
func wantNew(t *testing.T, name string, handed []api.Node, told ...api.Node) {
	t.Helper()
	seen := map[any]bool{}
	for _, n := range handed {
		for _, s := range spots(n) {
			seen[s] = true
		}
	}
	for _, n := range told {
		for _, s := range spots(n) {
			if seen[s] {
				t.Fatalf("%s: %s: something is shared", name, show(n))
			}
			seen[s] = true
		}
	}
}

// wantNothing looks that with an error nothing else is told.
func wantNothing(t *testing.T, name string, e api.Errno, told ...api.Node) {
	t.Helper()
	for _, n := range told {
		if e != api.OK && show(n) != nothing() {
			t.Errorf("%s: with error %d there is told %s", name, e, show(n))
		}
	}
}
