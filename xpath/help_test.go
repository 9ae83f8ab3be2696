package xpath_test

import (
	"fmt"
	"math"
	"slices"
	"strconv"
	"testing"

	"redline/api"
	"redline/xpath"
)

// path makes a path of numbers.
func path(l ...int) []int { return l }

// The operations that move paths: each of its path's numbers, those that need it of a Pos, or of another path.
func insert(q ...int) api.Op { return api.Op{Kind: api.InsertNode, Path: q} }

func remove(q ...int) api.Op { return api.Op{Kind: api.RemoveNode, Path: q} }

func merge(pos int, q ...int) api.Op { return api.Op{Kind: api.MergeNode, Path: q, Pos: pos} }

func split(pos int, q ...int) api.Op { return api.Op{Kind: api.SplitNode, Path: q, Pos: pos} }

func move(q, to []int) api.Op { return api.Op{Kind: api.MoveNode, Path: q, To: to} }

// kinds are all kinds of operations, and some that there are none of.
func kinds() []int {
	return []int{math.MinInt, -5, -1, 0, api.InsertNode, api.RemoveNode, api.MergeNode, api.SplitNode, api.MoveNode, api.SetNode, api.InsertText, api.RemoveText, api.SetSel, 10, 257, 1<<32 + 1, math.MaxInt}
}

// places tells all paths of at most so many numbers, each from 0 to top.
func places(most, top int) [][]int {
	out := [][]int{nil}
	for from := 0; most > 0; most-- {
		end := len(out)
		for _, p := range out[from:end] {
			for i := range top + 1 {
				out = append(out, slices.Concat(p, path(i)))
			}
		}
		from = end
	}
	return out
}

// great makes a path of many numbers, the same one each.
func great(many, number int) []int { return slices.Repeat(path(number), many) }

// with is p, with a number in the place of one that it has.
func with(p []int, at, n int) []int {
	out := slices.Clone(p)
	out[at] = n
	return out
}

// one is one case: where an operation moves p, if anything is told.
type one struct {
	o       api.Op
	p, want []int
	is      bool
}

// wantMoves holds what Move tells against what it should.
func wantMoves(t *testing.T, all []one) {
	t.Helper()
	for i, x := range all {
		got, is := xpath.Move(x.p, x.o)
		if is != x.is || !slices.Equal(got, x.want) {
			t.Errorf("%d: %s: got %v, %v, want %v, %v", i, what(x.p, x.o), few(got), is, few(x.want), x.is)
		}
	}
}

// wantNothing looks that nothing is told, and nil with it.
func wantNothing(t *testing.T, p []int, o api.Op) {
	t.Helper()
	if got, is := xpath.Move(p, o); got != nil || is {
		t.Errorf("%s: got %v, %v", what(p, o), few(got), is)
	}
}

// what names a path and an operation, few the first numbers of a path that may be very long.
func what(p []int, o api.Op) string {
	return fmt.Sprint(few(p), " by kind ", o.Kind, " at ", few(o.Path), ", ", o.Pos, ", to ", few(o.To))
}

func few(p []int) []int { return p[:min(len(p), 40)] }

// withRoom is a list with room behind its end, and something in that room.
func withRoom[T any](l []T, filler T) []T {
	return slices.Concat(l, slices.Repeat([]T{filler}, 4))[: len(l) : len(l)+4]
}

// roomy is an operation each list of which has room behind it.
func roomy(o api.Op) api.Op {
	o.Path, o.To = withRoom(o.Path, 77), withRoom(o.To, 77)
	o.Node = api.Node{Leaf: true, Text: withRoom([]rune{'a'}, 'r')}
	o.Old, o.New = withRoom([]api.Prop{{K: "a", V: "1"}}, api.Prop{K: "r"}), withRoom([]api.Prop{{K: "b", V: "2"}}, api.Prop{K: "r"})
	o.Text = withRoom([]rune{'t'}, 'r')
	o.From.Anchor.Path, o.Into.Focus.Path = withRoom(path(1), 77), withRoom(path(2), 77)
	return o
}

// show writes an operation down, also what stands in the room behind its lists, to see whether anybody writes there.
func show(o api.Op) string {
	out := strconv.Itoa(o.Kind) + " " + strconv.Itoa(o.Pos)
	for _, l := range [][]int{o.Path, o.To, o.From.Anchor.Path, o.Into.Focus.Path} {
		out += " " + showPath(l)
	}
	out += string(o.Text[:cap(o.Text)]) + string(o.Node.Text[:cap(o.Node.Text)])
	for _, l := range [][]api.Prop{o.Old, o.New} {
		for _, x := range l[:cap(l)] {
			out += " " + x.K + ":" + x.V
		}
	}
	return out
}

func showPath(p []int) string {
	out := strconv.Itoa(len(p)) + ":"
	for _, n := range p[:cap(p)] {
		out += " " + strconv.Itoa(n)
	}
	return out
}

// spoil writes all over a list, also behind its end, as far as it has room.
func spoil(p []int) {
	p = p[:cap(p)]
	for i := range p {
		p[i] = -99
	}
}
