package xrange_test

import (
	"cmp"
	"fmt"
	"math"
	"slices"
	"strings"
	"testing"

	"redline/api"
	"redline/xrange"
)

// path makes a path of numbers.
func path(l ...int) []int { return l }

// pt makes a point of an Off and its Path's numbers.
func pt(off int, l ...int) api.Point { return api.Point{Path: l, Off: off} }

// rg makes a range of its Anchor and its Focus, in1 one of two Offs in the leaf at 1.
func rg(a, f api.Point) api.Range { return api.Range{Anchor: a, Focus: f} }

func in1(a, f int) api.Range { return rg(pt(a, 1), pt(f, 1)) }

// sel makes a selection of its Anchor and its Focus.
func sel(a, f api.Point) api.Sel { return api.Sel{Is: true, Range: rg(a, f)} }

func turned(r api.Range) api.Range { return rg(r.Focus, r.Anchor) }

// The trees: of a text, and of Kids.
func leaf(s string) api.Node { return api.Node{Leaf: true, Text: []rune(s)} }

func elem(kids ...api.Node) api.Node { return api.Node{Kids: kids} }

// The operations on texts, and on nodes: each of its path's numbers, those that need it of a Pos, of how many runes, or of another path.
func put(pos, many int, q ...int) api.Op {
	return api.Op{Kind: api.InsertText, Path: q, Pos: pos, Text: slices.Repeat([]rune{'t'}, many)}
}

func take(pos, many int, q ...int) api.Op {
	return api.Op{Kind: api.RemoveText, Path: q, Pos: pos, Text: slices.Repeat([]rune{'t'}, many)}
}

func merge(pos int, q ...int) api.Op { return api.Op{Kind: api.MergeNode, Path: q, Pos: pos} }

func split(pos int, q ...int) api.Op { return api.Op{Kind: api.SplitNode, Path: q, Pos: pos} }

func insert(q ...int) api.Op { return api.Op{Kind: api.InsertNode, Path: q} }

func remove(q ...int) api.Op { return api.Op{Kind: api.RemoveNode, Path: q} }

func move(q, to []int) api.Op { return api.Op{Kind: api.MoveNode, Path: q, To: to} }

func set(q ...int) api.Op { return api.Op{Kind: api.SetNode, Path: q} }

// affs are the affinities of a range, unfit ones that are none.
func affs() []int {
	return []int{api.NoneA, api.ForwardA, api.BackwardA, api.InwardA, api.OutwardA}
}

func unfit() []int {
	return []int{math.MinInt, -1 << 32, -4, -3, -2, -1, 5, 6, 256, 257, 1 << 32, 1<<32 + api.InwardA, math.MaxInt}
}

// nine are all kinds of operations.
func nine() []int {
	return []int{api.InsertNode, api.RemoveNode, api.MergeNode, api.SplitNode, api.MoveNode, api.SetNode, api.InsertText, api.RemoveText, api.SetSel}
}

// strange are kinds that there are none of.
func strange() []int {
	return []int{math.MinInt, -api.InsertText, -1, 0, 10, 256 + api.InsertText, 1<<32 + api.SplitNode, math.MaxInt}
}

// places tells all paths of at most so many numbers, each from 0 to top.
func places(most, top int) [][]int {
	out := [][]int{nil}
	for from := 0; most > 0; most-- {
		end := len(out)
		for _, p := range out[from:end] {
			for i := range top + 1 {
				out = append(out, slices.Concat(p, path(i)))
			}
		}
		from = end
	}
	return out
}

// spread tells points of all small paths, of each Off below offs.
func spread(most, top, offs int) []api.Point {
	var out []api.Point
	for _, p := range places(most, top) {
		for off := range offs {
			out = append(out, pt(off, p...))
		}
	}
	return out
}

// pairs tells all ranges of some points, those of one point twice among them.
func pairs(all []api.Point) []api.Range {
	var out []api.Range
	for _, a := range all {
		for _, f := range all {
			out = append(out, rg(a, f))
		}
	}
	return out
}

// answer is what Move tells: a range, or nothing.
type answer struct {
	r  api.Range
	is bool
}

func to(r api.Range) answer { return answer{r, true} }

func gone() answer { return answer{} }

// one is one case: where an operation moves a range of each affinity, in the order of their numbers.
type one struct {
	o                                        api.Op
	r                                        api.Range
	none, forward, backward, inward, outward answer
}

// each is one case in which the affinity is nothing to it.
func each(o api.Op, r api.Range, want answer) one { return one{o, r, want, want, want, want, want} }

// stays is one case in which the range stays where it is.
func stays(o api.Op, r api.Range) one { return each(o, r, to(r)) }

// wantMoves holds what Move tells against what it should; a range turned round is to go to the range turned round.
func wantMoves(t *testing.T, all []one) {
	t.Helper()
	for _, x := range all {
		for i, want := range []answer{x.none, x.forward, x.backward, x.inward, x.outward} {
			wantMove(t, x.r, x.o, affs()[i], want)
			if compare(x.r.Anchor, x.r.Focus) != 0 {
				wantMove(t, turned(x.r), x.o, affs()[i], answer{turned(want.r), want.is})
			}
		}
	}
}

func wantMove(t *testing.T, r api.Range, o api.Op, aff int, want answer) {
	t.Helper()
	got, is := xrange.Move(r, o, aff)
	if is != want.is || !alike(got, want.r) {
		t.Fatalf("%s, %d: got %s, %v, want %s, %v", what(r, o), aff, span(got), is, span(want.r), want.is)
	}
}

// wantNothing looks that nothing is told of a range and of the range turned round, and ranges that are zero with it.
func wantNothing(t *testing.T, r api.Range, o api.Op, aff int) {
	t.Helper()
	wantMove(t, r, o, aff, gone())
	wantMove(t, turned(r), o, aff, gone())
}

// wantSel holds what Sel tells against what it should; a selection that is none is to be zero.
func wantSel(t *testing.T, n api.Node, s api.Sel, o api.Op, want api.Sel) {
	t.Helper()
	got := xrange.Sel(n, s, o)
	if got.Is != want.Is || !alike(got.Range, want.Range) {
		t.Fatalf("%s: got %v, %s, want %v, %s", what(s.Range, o), got.Is, span(got.Range), want.Is, span(want.Range))
	}
}

// compare and alike stand here so that the tests hang on no other layer's.
func compare(a, b api.Point) int {
	return cmp.Or(slices.Compare(a.Path, b.Path), cmp.Compare(a.Off, b.Off))
}

func alike(a, b api.Range) bool {
	return compare(a.Anchor, b.Anchor) == 0 && compare(a.Focus, b.Focus) == 0
}

// what names a range and an operation, span a range, few the first numbers of a path that may be very long.
func what(r api.Range, o api.Op) string {
	return fmt.Sprint(span(r), " by kind ", o.Kind, " at ", few(o.Path), ", ", o.Pos, ", of ", len(o.Text), " runes, to ", few(o.To))
}

func span(r api.Range) string {
	return fmt.Sprint(few(r.Anchor.Path), " ", r.Anchor.Off, " .. ", few(r.Focus.Path), " ", r.Focus.Off)
}

func few(p []int) []int { return p[:min(len(p), 40)] }

// withRoom is a list with room behind its end, and something in that room.
func withRoom[T any](l []T, filler T) []T {
	return slices.Concat(l, slices.Repeat([]T{filler}, 4))[: len(l) : len(l)+4]
}

// roomyRange, roomyOp and roomyTree are such ones each list of which has room behind it.
func roomyRange(r api.Range) api.Range {
	r.Anchor.Path, r.Focus.Path = withRoom(r.Anchor.Path, 88), withRoom(r.Focus.Path, 88)
	return r
}

func roomyOp(o api.Op) api.Op {
	o.Path, o.To = withRoom(o.Path, 77), withRoom(o.To, 77)
	o.Text = withRoom(o.Text, 'r')
	o.Node = roomyTree(leaf("a"))
	o.Old, o.New = withRoom([]api.Prop{{K: "a", V: "1"}}, api.Prop{K: "r"}), withRoom([]api.Prop{{K: "b", V: "2"}}, api.Prop{K: "r"})
	o.From.Range, o.Into.Range = roomyRange(in1(0, 1)), roomyRange(in1(2, 3))
	return o
}

func roomyTree(n api.Node) api.Node {
	n.Props, n.Text = withRoom(n.Props, api.Prop{K: "r"}), withRoom(n.Text, 'r')
	kids := slices.Clone(n.Kids)
	for i, k := range kids {
		kids[i] = roomyTree(k)
	}
	n.Kids = withRoom(kids, leaf("room"))
	return n
}

// show writes down what is handed in, also what stands in the room behind its lists, to see whether anybody writes there.
func show(n api.Node, r api.Range, o api.Op) string {
	var out strings.Builder
	for _, r := range []api.Range{r, o.From.Range, o.Into.Range} {
		fmt.Fprint(&out, r.Anchor.Off, r.Focus.Off, len(r.Anchor.Path), len(r.Focus.Path), r.Anchor.Path[:cap(r.Anchor.Path)], r.Focus.Path[:cap(r.Focus.Path)])
	}
	fmt.Fprint(&out, o.Kind, o.Pos, len(o.Path), o.Path[:cap(o.Path)], len(o.To), o.To[:cap(o.To)], len(o.Text), o.Text[:cap(o.Text)])
	fmt.Fprint(&out, o.Old[:cap(o.Old)], o.New[:cap(o.New)])
	showTree(&out, o.Node)
	showTree(&out, n)
	return out.String()
}

func showTree(out *strings.Builder, n api.Node) {
	fmt.Fprint(out, n.Leaf, len(n.Props), n.Props[:cap(n.Props)], len(n.Text), n.Text[:cap(n.Text)], len(n.Kids))
	for _, k := range n.Kids[:cap(n.Kids)] {
		showTree(out, k)
	}
}

// spoil writes all over a list, also behind its end, as far as it has room.
func spoil(p []int) {
	p = p[:cap(p)]
	for i := range p {
		p[i] = -99
	}
}
