package xpoint_test

import (
	"fmt"
	"math"
	"slices"
	"strconv"
	"testing"

	"redline/api"
	"redline/xpoint"
)

// path makes a path of numbers.
func path(l ...int) []int { return l }

// pt makes a point of an Off and its Path's numbers.
func pt(off int, l ...int) api.Point { return api.Point{Path: l, Off: off} }

// The operations on texts, and on nodes: each of its path's numbers, those that need it of a Pos, of how many runes, or of another path.
func put(pos, many int, q ...int) api.Op {
	return api.Op{Kind: api.InsertText, Path: q, Pos: pos, Text: slices.Repeat([]rune{'t'}, many)}
}

func take(pos, many int, q ...int) api.Op {
	return api.Op{Kind: api.RemoveText, Path: q, Pos: pos, Text: slices.Repeat([]rune{'t'}, many)}
}

func merge(pos int, q ...int) api.Op { return api.Op{Kind: api.MergeNode, Path: q, Pos: pos} }

func split(pos int, q ...int) api.Op { return api.Op{Kind: api.SplitNode, Path: q, Pos: pos} }

func insert(q ...int) api.Op { return api.Op{Kind: api.InsertNode, Path: q} }

func remove(q ...int) api.Op { return api.Op{Kind: api.RemoveNode, Path: q} }

func move(q, to []int) api.Op { return api.Op{Kind: api.MoveNode, Path: q, To: to} }

// affs are the affinities of a point.
func affs() []int { return []int{api.NoneA, api.ForwardA, api.BackwardA} }

// nine are all kinds of operations.
func nine() []int {
	return []int{api.InsertNode, api.RemoveNode, api.MergeNode, api.SplitNode, api.MoveNode, api.SetNode, api.InsertText, api.RemoveText, api.SetSel}
}

// strange are kinds that there are none of.
func strange() []int {
	return []int{math.MinInt, -api.InsertText, -1, 0, 10, 256 + api.InsertText, 1<<32 + api.SplitNode, math.MaxInt}
}

// places tells all paths of at most so many numbers, each from 0 to top.
func places(most, top int) [][]int {
	out := [][]int{nil}
	for from := 0; most > 0; most-- {
		end := len(out)
		for _, p := range out[from:end] {
			for i := range top + 1 {
				out = append(out, slices.Concat(p, path(i)))
			}
		}
		from = end
	}
	return out
}

// with is p, with a number in the place of one that it has.
func with(p []int, at, n int) []int {
	out := slices.Clone(p)
	out[at] = n
	return out
}

// answer is what Move tells: a point, or nothing.
type answer struct {
	p  api.Point
	is bool
}

func at(off int, l ...int) answer { return answer{pt(off, l...), true} }

func gone() answer { return answer{} }

// one is one case: where an operation moves a point of each affinity.
type one struct {
	o                       api.Op
	p                       api.Point
	none, forward, backward answer
}

// each is one case in which the affinity is nothing to it.
func each(o api.Op, p api.Point, want answer) one { return one{o, p, want, want, want} }

// stays is one case in which the point stays where it is.
func stays(o api.Op, p api.Point) one { return each(o, p, answer{p, true}) }

// wantMoves holds what Move tells against what it should.
func wantMoves(t *testing.T, all []one) {
	t.Helper()
	for _, x := range all {
		for i, want := range []answer{x.none, x.forward, x.backward} {
			wantMove(t, x.p, x.o, affs()[i], want)
		}
	}
}

func wantMove(t *testing.T, p api.Point, o api.Op, aff int, want answer) {
	t.Helper()
	got, is := xpoint.Move(p, o, aff)
	if is != want.is || !alike(got, want.p) || !is && got.Path != nil {
		t.Errorf("%s, %d: got %s, %v, want %s, %v", what(p, o), aff, spot(got), is, spot(want.p), want.is)
	}
}

// wantNothing looks that nothing is told, and a point that is zero with it.
func wantNothing(t *testing.T, p api.Point, o api.Op, aff int) {
	t.Helper()
	wantMove(t, p, o, aff, gone())
}

// alike stands here so that the tests hang on no other layer's Same.
func alike(a, b api.Point) bool { return a.Off == b.Off && slices.Equal(a.Path, b.Path) }

// what names a point and an operation, spot a point, few the first numbers of a path that may be very long.
func what(p api.Point, o api.Op) string {
	return fmt.Sprint(spot(p), " by kind ", o.Kind, " at ", few(o.Path), ", ", o.Pos, ", of ", len(o.Text), " runes, to ", few(o.To))
}

func spot(p api.Point) string { return fmt.Sprint(few(p.Path), " ", p.Off) }

func few(p []int) []int { return p[:min(len(p), 40)] }

// withRoom is a list with room behind its end, and something in that room.
func withRoom[T any](l []T, filler T) []T {
	return slices.Concat(l, slices.Repeat([]T{filler}, 4))[: len(l) : len(l)+4]
}

// roomy is an operation each list of which has room behind it.
func roomy(o api.Op) api.Op {
	o.Path, o.To = withRoom(o.Path, 77), withRoom(o.To, 77)
	o.Text = withRoom(o.Text, 'r')
	o.Node = api.Node{Leaf: true, Text: withRoom([]rune{'a'}, 'r')}
	o.Old, o.New = withRoom([]api.Prop{{K: "a", V: "1"}}, api.Prop{K: "r"}), withRoom([]api.Prop{{K: "b", V: "2"}}, api.Prop{K: "r"})
	o.From.Anchor.Path, o.Into.Focus.Path = withRoom(path(1), 77), withRoom(path(2), 77)
	return o
}

// show writes a point and an operation down, also what stands in the room behind their lists, to see whether anybody writes there.
func show(p api.Point, o api.Op) string {
	out := strconv.Itoa(p.Off) + " " + strconv.Itoa(o.Kind) + " " + strconv.Itoa(o.Pos)
	for _, l := range [][]int{p.Path, o.Path, o.To, o.From.Anchor.Path, o.Into.Focus.Path} {
		out += fmt.Sprint(" ", len(l), l[:cap(l)])
	}
	out += string(o.Text[:cap(o.Text)]) + string(o.Node.Text[:cap(o.Node.Text)])
	return out + fmt.Sprint(o.Old[:cap(o.Old)], o.New[:cap(o.New)])
}

// spoil writes all over a list, also behind its end, as far as it has room.
func spoil(p []int) {
	p = p[:cap(p)]
	for i := range p {
		p[i] = -99
	}
}
