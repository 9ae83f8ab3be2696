package hold_test

import (
	"fmt"
	"math"
	"slices"
	"testing"

	"redline/api"
	"redline/code"
	"redline/hold"
)

// path makes a path of numbers, pt a point of an Off and its Path's numbers, rg a range of its Anchor and its Focus.
func path(l ...int) []int { return l }

func pt(off int, l ...int) api.Point { return api.Point{Path: l, Off: off} }

func rg(a, f api.Point) api.Range { return api.Range{Anchor: a, Focus: f} }

// ofPath, ofPoint and ofRange make live refs of each kind.
func ofPath(l ...int) api.Ref { return api.Ref{Id: 7, Kind: api.PathK, Live: true, Path: l} }

func ofPoint(aff int, p api.Point) api.Ref {
	return api.Ref{Id: 8, Kind: api.PointK, Aff: aff, Live: true, Point: p}
}

func ofRange(aff int, a, f api.Point) api.Ref {
	return api.Ref{Id: 9, Kind: api.RangeK, Aff: aff, Live: true, Range: rg(a, f)}
}

// gone is a ref that is taken out, dead one that is not Live, whatever stands in it.
func gone(r api.Ref) api.Ref { return api.Ref{Id: r.Id, Kind: r.Kind, Aff: r.Aff} }

func dead(r api.Ref) api.Ref {
	r.Live = false
	return r
}

func refs(l ...api.Ref) []api.Ref { return l }

func leaf(s string) api.Node { return api.Node{Leaf: true, Text: []rune(s)} }

func elem(kids ...api.Node) api.Node { return api.Node{Kids: kids} }

// tr is the tree that a text tells, as code reads it.
func tr(s string) api.Node {
	n, at, e := code.Parse(s)
	if e != api.OK {
		panic(fmt.Sprint(s, " is no tree: ", at, ", ", e))
	}
	return n
}

// doc is a tree with leaves, one of them without runes, and elements, one of them without Kids.
const doc = `["abc"{type:p}["d"[]""]["ef"]]`

// The operations of each kind, with the numbers of their Path at the end; of what they have only that which is asked here.
func insert(q ...int) api.Op { return api.Op{Kind: api.InsertNode, Path: q} }

func remove(q ...int) api.Op { return api.Op{Kind: api.RemoveNode, Path: q} }

func merge(pos int, q ...int) api.Op { return api.Op{Kind: api.MergeNode, Path: q, Pos: pos} }

func split(pos int, q ...int) api.Op { return api.Op{Kind: api.SplitNode, Path: q, Pos: pos} }

func move(q, to []int) api.Op { return api.Op{Kind: api.MoveNode, Path: q, To: to} }

func set(q ...int) api.Op { return api.Op{Kind: api.SetNode, Path: q} }

func put(pos int, s string, q ...int) api.Op {
	return api.Op{Kind: api.InsertText, Path: q, Pos: pos, Text: []rune(s)}
}

func take(pos int, s string, q ...int) api.Op {
	return api.Op{Kind: api.RemoveText, Path: q, Pos: pos, Text: []rune(s)}
}

func choose() api.Op { return api.Op{Kind: api.SetSel} }

// nine are all kinds of operations, strange are numbers that are no kind, neither of operations nor of refs.
func nine() []int {
	return []int{api.InsertNode, api.RemoveNode, api.MergeNode, api.SplitNode, api.MoveNode, api.SetNode, api.InsertText, api.RemoveText, api.SetSel}
}

func strange() []int {
	return []int{math.MinInt, -1 << 32, -256 + api.PathK, -3, -2, -1, 0, 10, 256 + api.PointK, 1<<32 + api.RangeK, math.MaxInt}
}

// affs are how many affinities a kind has: those from NoneA on.
func affs(kind int) int {
	return map[int]int{api.PathK: 1, api.PointK: 3, api.RangeK: 5}[kind]
}

func three() []int { return []int{api.PathK, api.PointK, api.RangeK} }

// odd are numbers that no small tree has a place for.
func odd() []int {
	return []int{math.MinInt, math.MinInt + 1, -1 << 32, -api.MaxCap, -2, -1, 9, api.MaxCap, api.MaxCap + 1, 1 << 32, 1<<32 + 1, math.MaxInt - 1, math.MaxInt}
}

// beyond are those of them that are no places at all: of such nothing is told.
func beyond() []int {
	return slices.DeleteFunc(odd(), func(i int) bool { return 0 <= i && i <= api.MaxCap })
}

// trees are all trees of at most so many nodes, each an element or a leaf; leaves have texts of one to three runes, and Kids, too, if strange ones are asked for.
func trees(most int, strange bool) []api.Node {
	var out []api.Node
	for many := 1; many <= most; many++ {
		out = append(out, treesOf(many, strange)...)
	}
	return out
}

func treesOf(many int, strange bool) []api.Node {
	var out []api.Node
	for _, kids := range forests(many-1, strange) {
		out = append(out, elem(kids...))
		if strange || len(kids) == 0 {
			out = append(out, api.Node{Leaf: true, Text: []rune("abc")[:many%3], Kids: kids})
		}
	}
	return out
}

// forests are all lists of trees that have so many nodes together.
func forests(many int, strange bool) [][]api.Node {
	if many == 0 {
		return [][]api.Node{nil}
	}
	var out [][]api.Node
	for first := 1; first <= many; first++ {
		for _, n := range treesOf(first, strange) {
			for _, l := range forests(many-first, strange) {
				out = append(out, slices.Concat([]api.Node{n}, l))
			}
		}
	}
	return out
}

// places are all paths of at most so many numbers, each from least to top.
func places(most, least, top int) [][]int {
	out := [][]int{nil}
	for from := 0; most > 0; most-- {
		end := len(out)
		for _, p := range out[from:end] {
			for i := least; i <= top; i++ {
				out = append(out, slices.Concat(p, path(i)))
			}
		}
		from = end
	}
	return out
}

// samePoint and sameRef stand here so that the tests hang on no other layer's.
func samePoint(a, b api.Point) bool { return a.Off == b.Off && slices.Equal(a.Path, b.Path) }

func sameRef(a, b api.Ref) bool {
	return a.Id == b.Id && a.Kind == b.Kind && a.Aff == b.Aff && a.Live == b.Live && slices.Equal(a.Path, b.Path) && samePoint(a.Point, b.Point) && samePoint(a.Range.Anchor, b.Range.Anchor) && samePoint(a.Range.Focus, b.Range.Focus)
}

// few writes down what may be very long.
func few(x any) string {
	s := fmt.Sprintf("%+v", x)
	return s[:min(len(s), 300)]
}

func wantCheck(t *testing.T, n api.Node, r api.Ref, want api.Errno) {
	t.Helper()
	if e := hold.Check(n, r); e != want {
		t.Fatalf("%s: got %d, want %d", few(r), e, want)
	}
}

// wantList looks that a list has these refs, in order.
func wantList(t *testing.T, name string, got, want []api.Ref) {
	t.Helper()
	if len(got) != len(want) {
		t.Fatalf("%s: got %d refs, want %d", name, len(got), len(want))
	}
	for i := range got {
		if !sameRef(got[i], want[i]) {
			t.Fatalf("%s: %d is %s, want %s", name, i, few(got[i]), few(want[i]))
		}
	}
}

// went is one case: a ref, an operation, and the ref behind it.
type went struct {
	r    api.Ref
	o    api.Op
	want api.Ref
}

// wantWent looks at each case, by itself and between refs that are not Live.
func wantWent(t *testing.T, all []went) {
	t.Helper()
	for _, x := range all {
		name := few(x.r) + " by " + few(x.o)
		wantList(t, name, hold.Step(refs(x.r), x.o), refs(x.want))
		still := dead(x.r)
		wantList(t, name, hold.Step(refs(still, x.r, still), x.o), refs(still, x.want, still))
	}
}
