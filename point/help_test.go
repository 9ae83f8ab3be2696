package point_test

import (
	"cmp"
	"math"
	"slices"
	"strconv"
	"strings"
	"testing"

	"redline/api"
)

// path makes a path of numbers.
func path(l ...int) []int { return l }

// pt makes a point of an Off and its Path's numbers.
func pt(off int, l ...int) api.Point { return api.Point{Path: l, Off: off} }

func leaf(s string) api.Node {
	return api.Node{Leaf: true, Text: []rune(s)}
}

func elem(kids ...api.Node) api.Node {
	return api.Node{Kids: kids}
}

// sample is a tree that may be: leaves at several depths, with text and without, and elements without Kids, the first and the last Kid among them.
func sample() api.Node {
	return elem(
		elem(),
		elem(leaf("ab"), elem(leaf("")), leaf("c☃\U0001f600")),
		leaf("def"),
		elem(elem(), elem(leaf("g"), elem(elem(leaf("hi"))), elem())),
		elem(elem()))
}

// odd is a tree that may not be: leaves with Kids, elements with a text, properties and runes that are none.
func odd() api.Node {
	bad := []api.Prop{{K: "z"}, {K: "A"}, {K: "z"}}
	return api.Node{Props: bad, Text: []rune{-1, 0xd800}, Kids: []api.Node{
		{Text: []rune("ab")},
		{Leaf: true, Props: bad, Text: []rune{-1, 'a'}, Kids: []api.Node{leaf("bcd"), {Text: []rune("c"), Kids: []api.Node{leaf("")}}, elem()}},
		{Leaf: true, Text: []rune{0x110000}, Kids: []api.Node{elem()}},
	}}
}

// oddLeaf is a root that is a leaf, and has Kids, though it may not.
func oddLeaf() api.Node {
	return api.Node{Leaf: true, Text: []rune("ab"), Kids: []api.Node{elem(), leaf("cde"), elem(leaf(""))}}
}

// known are trees, with the paths of their leaves, and how many runes each has, written down by hand.
func known() []knownTree {
	return []knownTree{
		{sample(), []spot{{path(1, 0), 2}, {path(1, 1, 0), 0}, {path(1, 2), 3}, {path(2), 3}, {path(3, 1, 0), 1}, {path(3, 1, 1, 0, 0), 2}}},
		{odd(), []spot{{path(1), 2}, {path(1, 0), 3}, {path(1, 1, 0), 0}, {path(2), 1}}},
		{oddLeaf(), []spot{{nil, 2}, {path(1), 3}, {path(2, 0), 0}}},
		{leaf("abc"), []spot{{nil, 3}}},
		{leaf(""), []spot{{nil, 0}}},
		{elem(elem(), elem(elem(leaf("a"))), elem()), []spot{{path(1, 0, 0), 1}}},
		// Without a leaf, the last one with a text though it may not.
		{elem(), nil},
		{elem(elem(), elem(elem(), elem())), nil},
		{api.Node{Text: []rune("ab"), Kids: []api.Node{{Text: []rune("c")}}}, nil},
	}
}

type knownTree struct {
	n      api.Node
	leaves []spot
}

// spot is where a leaf stands, and how many runes it has.
type spot struct {
	p    []int
	many int
}

// spots are those of all leaves of a tree, sorted, told in another way than by calls that call themselves.
func spots(n api.Node) []spot {
	type stop struct {
		p []int
		n api.Node
	}
	var out []spot
	for rest := []stop{{nil, n}}; len(rest) > 0; rest = rest[1:] {
		at := rest[0]
		if at.n.Leaf {
			out = append(out, spot{at.p, len(at.n.Text)})
		}
		for i, k := range at.n.Kids {
			rest = append(rest, stop{slices.Concat(at.p, path(i)), k})
		}
	}
	slices.SortFunc(out, func(a, b spot) int { return slices.Compare(a.p, b.p) })
	return out
}

// gaps are all points of a tree, in order.
func gaps(n api.Node) []api.Point {
	var out []api.Point
	for _, s := range spots(n) {
		for off := range s.many + 1 {
			out = append(out, api.Point{Path: s.p, Off: off})
		}
	}
	return out
}

// compared is by the chapter's words how two points stand; a path's numbers are compared one by one, as slices.Compare does.
func compared(a, b api.Point) int {
	if c := slices.Compare(a.Path, b.Path); c != 0 {
		return c
	}
	return cmp.Compare(a.Off, b.Off)
}

func equal(a, b api.Point) bool { return compared(a, b) == 0 }

// trees tells all trees of at most so many nodes, each node an element or a leaf, the leaves with texts of 0 to 2 runes; those with a leaf that has Kids, too.
func trees(most int) []api.Node {
	var out []api.Node
	for many := 1; many <= most; many++ {
		for _, n := range treesOf(many) {
			next := 0
			out = append(out, filled(n, &next))
		}
	}
	return out
}

func treesOf(many int) []api.Node {
	var out []api.Node
	for _, kids := range forests(many - 1) {
		out = append(out, elem(kids...), api.Node{Leaf: true, Kids: kids})
	}
	return out
}

// forests tells all lists of trees that have so many nodes together.
func forests(many int) [][]api.Node {
	if many == 0 {
		return [][]api.Node{nil}
	}
	var out [][]api.Node
	for first := 1; first <= many; first++ {
		rest := forests(many - first)
		for _, n := range treesOf(first) {
			for _, l := range rest {
				out = append(out, slices.Concat([]api.Node{n}, l))
			}
		}
	}
	return out
}

// filled gives each leaf a text, the one after the other one of another length, and each node Kids of its own.
func filled(n api.Node, next *int) api.Node {
	*next++
	if n.Leaf {
		n.Text = slices.Repeat([]rune{'a'}, *next%3)
	}
	n.Kids = slices.Clone(n.Kids)
	for i, k := range n.Kids {
		n.Kids[i] = filled(k, next)
	}
	return n
}

// places tells all paths of at most so many numbers, each from -1 to top.
func places(most, top int) [][]int {
	out := [][]int{nil}
	for from := 0; most > 0; most-- {
		end := len(out)
		for _, p := range out[from:end] {
			for i := -1; i <= top; i++ {
				out = append(out, slices.Concat(p, path(i)))
			}
		}
		from = end
	}
	return out
}

// farPlaces are paths of numbers that are very great, or far below 0, ahead of, behind, and below what the sample has.
func farPlaces() [][]int {
	var out [][]int
	for _, i := range []int{math.MinInt, math.MinInt + 1, -1 << 32, -1 << 31, 1 << 31, 1 << 32, 1<<32 + 1, 1<<32 + 2, math.MaxInt - 1, math.MaxInt} {
		for _, p := range [][]int{path(), path(0), path(1), path(1, 0), path(1, 1), path(2), path(3, 1), path(3, 1, 1, 0), path(4), path(-1), path(9)} {
			out = append(out, slices.Concat(p, path(i)), slices.Concat(p, path(i, 0)), slices.Concat(p, path(i, math.MaxInt)), slices.Concat(path(i), p))
		}
	}
	return append(out, slices.Repeat(path(0), 1<<16), slices.Repeat(path(1), 1<<16), slices.Repeat(path(9), 1<<16))
}

// comb is a tree of so many levels: each element has a leaf, and, ahead of it or behind it, the element below.
func comb(levels int, ahead bool) api.Node {
	n := elem(leaf("end"))
	for range levels - 2 {
		if ahead {
			n = elem(n, leaf("ab"))
		} else {
			n = elem(leaf("ab"), n)
		}
	}
	return n
}

// wide is an element with so many leaves of one rune, and as many elements without Kids ahead of them, and behind.
func wide(many int) api.Node {
	n := api.Node{Kids: make([]api.Node, 3*many)}
	for i := range many {
		n.Kids[many+i] = leaf("a")
	}
	return n
}

// room is a node in the room behind a list's end.
func room() api.Node { return leaf("room") }

// roomy is a copy of n each list of which has room behind it, with something in that room.
func roomy(n api.Node) api.Node {
	n.Props = withRoom(n.Props, api.Prop{K: "room", V: "room"})
	n.Text = withRoom(n.Text, 0x2603)
	n.Kids = withRoom(n.Kids, room())
	for i, k := range n.Kids {
		n.Kids[i] = roomy(k)
	}
	return n
}

func roomyPoint(p api.Point) api.Point {
	return api.Point{Path: withRoom(p.Path, 77), Off: p.Off}
}

func roomySel(s api.Sel) api.Sel {
	s.Anchor, s.Focus = roomyPoint(s.Anchor), roomyPoint(s.Focus)
	return s
}

func withRoom[T any](l []T, filler T) []T {
	return slices.Concat(l, slices.Repeat([]T{filler}, 3))[: len(l) : len(l)+3]
}

// show writes a tree down, also what stands in the room behind its lists, to see whether anybody writes there.
func show(n api.Node) string {
	var b strings.Builder
	var write func(n api.Node)
	write = func(n api.Node) {
		b.WriteString(strconv.FormatBool(n.Leaf) + "{")
		for _, p := range n.Props[:cap(n.Props)] {
			b.WriteString(p.K + ":" + p.V + " ")
		}
		b.WriteString("}")
		for _, c := range n.Text[:cap(n.Text)] {
			b.WriteString(" " + strconv.Itoa(int(c)))
		}
		b.WriteString("[" + strconv.Itoa(len(n.Kids)))
		for _, k := range n.Kids[:cap(n.Kids)] {
			write(k)
		}
		b.WriteString("]")
	}
	write(n)
	return b.String()
}

func showPath(p []int) string {
	out := strconv.Itoa(len(p))
	for _, i := range p[:cap(p)] {
		out += " " + strconv.Itoa(i)
	}
	return out
}

func showPoint(p api.Point) string { return showPath(p.Path) + ": " + strconv.Itoa(p.Off) }

func showSel(s api.Sel) string {
	return strconv.FormatBool(s.Is) + " " + showPoint(s.Anchor) + ", " + showPoint(s.Focus)
}

// spoil writes all over a list, also behind its end, as far as it has room.
func spoil(p []int) {
	p = p[:cap(p)]
	for i := range p {
		p[i] = -99
	}
}

// spoilTree writes all over a tree, at each depth, the deepest first.
func spoilTree(n api.Node) {
	for i := range n.Kids {
		spoilTree(n.Kids[i])
		n.Kids[i] = leaf("spoilt")
	}
	for i := range n.Text {
		n.Text[i] = '!'
	}
}

// wantPoint looks that a point is told of a tree and a path, or that with an error nothing is.
func wantPoint(t *testing.T, what string, n api.Node, p []int, got api.Point, e api.Errno, want api.Point, is bool) {
	t.Helper()
	if is && (e != api.OK || !equal(got, want)) || !is && (e != api.ErrNone || !equal(got, api.Point{})) {
		t.Fatalf("%s of %.2000s, %.20v: got %.20v, error %d, want %.20v, %v", what, show(n), p, got, e, want, is)
	}
}
