package op_test

import (
	"fmt"
	"math"
	"slices"
	"testing"

	"redline/api"
	"redline/code"
	"redline/op"
)

// path makes a path of numbers.
func path(l ...int) []int { return l }

// pt makes a point of an Off and its Path's numbers.
func pt(off int, l ...int) api.Point { return api.Point{Path: l, Off: off} }

// sel makes a selection of its Anchor and its Focus, no one that is none, whatever its points are.
func sel(a, f api.Point) api.Sel { return api.Sel{Is: true, Range: api.Range{Anchor: a, Focus: f}} }

func no(a, f api.Point) api.Sel { return api.Sel{Range: api.Range{Anchor: a, Focus: f}} }

// none is no selection.
func none() api.Sel { return api.Sel{} }

// props makes properties of keys and values, one after the other.
func props(l ...string) []api.Prop {
	var out []api.Prop
	for i := 0; i+1 < len(l); i += 2 {
		out = append(out, api.Prop{K: l[i], V: l[i+1]})
	}
	return out
}

// many makes so many properties that may be, but for their number.
func many(n int) []api.Prop {
	var out []api.Prop
	for i := range n {
		out = append(out, api.Prop{K: "k" + string(rune('a'+i))})
	}
	return out
}

func leaf(s string, l ...string) api.Node {
	return api.Node{Leaf: true, Props: props(l...), Text: []rune(s)}
}

func elem(kids ...api.Node) api.Node { return api.Node{Kids: kids} }

// tr is the tree that a text tells, as code reads it.
func tr(s string) api.Node {
	n, at, e := code.Parse(s)
	if e != api.OK {
		panic(fmt.Sprint(s, " is no tree: ", at, ", ", e))
	}
	return n
}

// The operations of each kind, with the numbers of their Path at the end.
func insert(n api.Node, q ...int) api.Op { return api.Op{Kind: api.InsertNode, Path: q, Node: n} }

func remove(n api.Node, q ...int) api.Op { return api.Op{Kind: api.RemoveNode, Path: q, Node: n} }

func merge(pos int, old []api.Prop, q ...int) api.Op {
	return api.Op{Kind: api.MergeNode, Path: q, Pos: pos, Old: old}
}

func split(pos int, new []api.Prop, q ...int) api.Op {
	return api.Op{Kind: api.SplitNode, Path: q, Pos: pos, New: new}
}

func move(q, to []int) api.Op { return api.Op{Kind: api.MoveNode, Path: q, To: to} }

func set(old, new []api.Prop, q ...int) api.Op {
	return api.Op{Kind: api.SetNode, Path: q, Old: old, New: new}
}

func put(pos int, s string, q ...int) api.Op {
	return api.Op{Kind: api.InsertText, Path: q, Pos: pos, Text: []rune(s)}
}

func take(pos int, s string, q ...int) api.Op {
	return api.Op{Kind: api.RemoveText, Path: q, Pos: pos, Text: []rune(s)}
}

func choose(from, into api.Sel) api.Op { return api.Op{Kind: api.SetSel, From: from, Into: into} }

// strange are kinds that there are none of.
func strange() []int {
	return []int{math.MinInt, -1 << 32, -256 + api.SetSel, -9, -1, 0, 10, 11, 16, 256 + api.InsertNode, 1<<32 + api.SetNode, math.MaxInt}
}

// odd are numbers that no small tree has a place for.
func odd() []int {
	return []int{math.MinInt, math.MinInt + 1, -1 << 32, -api.MaxCap, -2, -1, api.MaxCap, api.MaxCap + 1, 1 << 32, 1<<32 + 1, math.MaxInt - 1, math.MaxInt}
}

// sameNode, samePoint and sameSel stand here so that the tests hang on no other layer's.
func sameNode(a, b api.Node) bool {
	return a.Leaf == b.Leaf && slices.Equal(a.Props, b.Props) && slices.Equal(a.Text, b.Text) && slices.EqualFunc(a.Kids, b.Kids, sameNode)
}

func samePoint(a, b api.Point) bool { return a.Off == b.Off && slices.Equal(a.Path, b.Path) }

func sameSel(a, b api.Sel) bool {
	return a.Is == b.Is && samePoint(a.Anchor, b.Anchor) && samePoint(a.Focus, b.Focus)
}

// what names a case; what is very long of it is cut off.
func what(n api.Node, s api.Sel, o api.Op) string {
	return cut(fmt.Sprintf("%+v", o)) + " on " + show(n) + " with " + cut(fmt.Sprintf("%+v", s))
}

func cut(s string) string { return s[:min(len(s), 400)] }

func show(n api.Node) string {
	if s, e := code.Print(n); e == api.OK {
		return cut(s)
	}
	return cut(fmt.Sprintf("%+v", n))
}

// wantDone looks which tree and which selection stand behind an operation, and that Check tells nothing of it.
func wantDone(t *testing.T, n api.Node, s api.Sel, o api.Op, want api.Node, into api.Sel) {
	t.Helper()
	got, at, e := op.Apply(n, s, o)
	if e != api.OK || !sameNode(got, want) || !sameSel(at, into) {
		t.Fatalf("%s: got %s, %v, %d, want %s, %v", what(n, s, o), show(got), at, e, show(want), into)
	}
	if e := op.Check(n, s, o); e != api.OK {
		t.Fatalf("%s: Check tells %d", what(n, s, o), e)
	}
}

// wantWrong looks that both calls tell an error, and nothing else with it.
func wantWrong(t *testing.T, n api.Node, s api.Sel, o api.Op, want api.Errno) {
	t.Helper()
	got, at, e := op.Apply(n, s, o)
	if e != want || !sameNode(got, api.Node{}) || !sameSel(at, none()) {
		t.Fatalf("%s: got %s, %v, %d, want %d", what(n, s, o), show(got), at, e, want)
	}
	if e := op.Check(n, s, o); e != want {
		t.Fatalf("%s: Check tells %d, want %d", what(n, s, o), e, want)
	}
}

// done is one case: a tree, an operation on it, and the tree behind that.
type done struct {
	n    string
	o    api.Op
	want string
}

// wantAll looks at each case without a selection.
func wantAll(t *testing.T, all []done) {
	t.Helper()
	for _, x := range all {
		wantDone(t, tr(x.n), none(), x.o, tr(x.want), none())
	}
}

// refused is one case: an operation on a tree, and the error that is told of it.
type refused struct {
	n string
	o api.Op
	e api.Errno
}

func wantAllWrong(t *testing.T, all []refused) {
	t.Helper()
	for _, x := range all {
		wantWrong(t, tr(x.n), none(), x.o, x.e)
	}
}

// nowhere are paths that lead nowhere in a tree of leaves at 0 and 1, an element with two leaves at 2, and an empty one at 3.
func nowhere() [][]int {
	out := [][]int{path(4), path(0, 0), path(1, 1), path(2, 2), path(2, 0, 0), path(3, 0), path(0, 0, 0), path(4, 0)}
	for _, i := range odd() {
		out = append(out, path(i), path(i, 0), path(2, i), path(i, i))
	}
	return out
}

// four is such a tree.
const four = `["ab"{bold:1}"cd"{type:p}["e""f"][]]`
