package xrange_test

import (
	"slices"
	"testing"

	"redline/api"
	"redline/point"
	"redline/xpoint"
	"redline/xrange"
)

// told is what the chapter's words say of a range.
func told(r api.Range, o api.Op, aff int) answer {
	points, goes := []api.Point{r.Anchor, r.Focus}, []int{aff, aff}
	start, end := 0, 1
	if compare(r.Focus, r.Anchor) < 0 {
		start, end = 1, 0
	}
	if !slices.Contains(affs(), aff) {
		return gone()
	}
	if aff == api.InwardA {
		goes[start], goes[end] = api.ForwardA, api.BackwardA
		if compare(r.Anchor, r.Focus) == 0 {
			goes[end] = api.ForwardA
		}
	}
	if aff == api.OutwardA {
		goes[start], goes[end] = api.BackwardA, api.ForwardA
	}
	for i, p := range points {
		q, is := xpoint.Move(p, o, goes[i])
		if !is {
			return gone()
		}
		points[i] = q
	}
	return to(rg(points[0], points[1]))
}

// toldSel is what they say of a selection.
func toldSel(n api.Node, s api.Sel, o api.Op) api.Sel {
	if !s.Is {
		return api.Sel{}
	}
	var points []api.Point
	for _, p := range []api.Point{s.Anchor, s.Focus} {
		if q, is := xpoint.Move(p, o, api.ForwardA); is {
			points = append(points, q)
		} else if q, e := point.Ahead(n, o.Path); e == api.OK {
			points = append(points, q)
		} else if q, e := point.Behind(n, o.Path); e == api.OK {
			points = append(points, q)
		}
	}
	if len(points) < 2 {
		return api.Sel{}
	}
	return sel(points[0], points[1])
}

// small tells small operations of all kinds, and of kinds that there are none of.
func small() []api.Op {
	var out []api.Op
	for _, kind := range append(nine(), strange()...) {
		for _, q := range places(2, 1) {
			for pos := range 3 {
				for _, text := range []string{"", "ab"} {
					out = append(out, api.Op{Kind: kind, Path: q, To: path(1), Pos: pos, Text: []rune(text)})
				}
			}
		}
	}
	return out
}

// P10.1: each small range by each small operation, of each affinity, and with some that are none.
func TestByWords(t *testing.T) {
	for _, r := range pairs(spread(2, 1, 3)) {
		for _, o := range small() {
			for _, aff := range append(affs(), -1, 5) {
				wantMove(t, r, o, aff, told(r, o, aff))
			}
		}
	}
}

// P10.1: ranges of deeper paths, by fewer operations.
func TestByWordsDeeper(t *testing.T) {
	for _, r := range pairs(spread(3, 1, 1)) {
		for _, q := range places(3, 1) {
			for _, kind := range nine() {
				for pos := range 2 {
					o := api.Op{Kind: kind, Path: q, To: path(0, 1), Pos: pos, Text: []rune("ab")}
					for _, aff := range affs() {
						wantMove(t, r, o, aff, told(r, o, aff))
					}
				}
			}
		}
	}
}

// forest are trees of all sorts.
func forest() []api.Node {
	return []api.Node{
		{},
		leaf("ab"),
		elem(elem(), elem(elem())),
		elem(leaf("abc"), leaf(""), elem(leaf("d"))),
		elem(elem(), elem(elem(), leaf("ab"))),
		elem(elem(leaf("a"), leaf("bc")), elem(leaf("def"), elem()), leaf("g")),
	}
}

// P10.2: each small selection by each small operation, in trees of all sorts.
func TestSelByWords(t *testing.T) {
	for _, n := range forest() {
		for _, r := range pairs(spread(2, 1, 2)) {
			for _, o := range small() {
				for _, s := range []api.Sel{{Is: true, Range: r}, {Range: r}} {
					wantSel(t, n, s, o, toldSel(n, s, o))
				}
			}
		}
	}
}

// shared are ranges; of some of them both points have one list as their paths, or lists in one memory.
func shared() []api.Range {
	out := pairs(spread(2, 1, 1))
	one, two := path(1, 0), path(0, 1, 0)
	return append(out, rg(pt(1, one...), pt(2, one...)), rg(pt(2, one...), pt(2, one...)), rg(pt(1, two...), pt(2, two[:2]...)), rg(pt(1, two[1:]...), pt(2, two[:2]...)))
}

// fewer tells fewer operations: those of each kind that change something just where points of Off 0 stand.
func fewer() []api.Op {
	var out []api.Op
	for _, kind := range append(nine(), 0) {
		for _, q := range places(2, 1) {
			out = append(out, api.Op{Kind: kind, Path: q, To: path(1), Pos: 0, Text: []rune("ab")})
		}
	}
	return out
}

// P10.1, R2: what is handed in stays as it is, also in the room behind its lists; what is told shares nothing with it, nor its points with one another.
func TestShares(t *testing.T) {
	for _, r := range shared() {
		for _, o := range fewer() {
			for _, aff := range append(affs(), -1, 5) {
				wantOwn(t, api.Node{}, r, o, func(n api.Node, r api.Range, o api.Op) (api.Range, bool) {
					return xrange.Move(r, o, aff)
				})
			}
		}
	}
}

// P10.2, R2: no more of a selection, its tree among what is handed in.
func TestSelShares(t *testing.T) {
	for _, n := range forest()[2:5] {
		for _, r := range shared() {
			for _, o := range fewer() {
				for _, is := range []bool{true, false} {
					wantOwn(t, n, r, o, func(n api.Node, r api.Range, o api.Op) (api.Range, bool) {
						got := xrange.Sel(n, api.Sel{Is: is, Range: r}, o)
						return got.Range, got.Is
					})
				}
			}
		}
	}
}

// wantOwn looks that a call leaves alone what it is handed, also if its paths are one list, and tells what is new.
func wantOwn(t *testing.T, n api.Node, r api.Range, o api.Op, call func(api.Node, api.Range, api.Op) (api.Range, bool)) {
	t.Helper()
	plain, _ := call(n, r, o)
	if slices.Equal(r.Anchor.Path, r.Focus.Path) {
		r.Anchor.Path = withRoom(r.Anchor.Path, 88)
		r.Focus.Path = r.Anchor.Path
	} else {
		r = roomyRange(r)
	}
	n, o = roomyTree(n), roomyOp(o)
	was := show(n, r, o)
	got, is := call(n, r, o)
	again, _ := call(n, r, o)
	if show(n, r, o) != was || !alike(got, plain) || !alike(again, plain) || !is && !alike(got, api.Range{}) {
		t.Fatalf("%s: what was handed in is changed, or the answer", what(r, o))
	}
	spoil(got.Anchor.Path)
	if !slices.Equal(got.Focus.Path, plain.Focus.Path) {
		t.Fatalf("%s: the points that are told share their paths", what(r, o))
	}
	spoil(got.Focus.Path)
	if show(n, r, o) != was || !alike(again, plain) {
		t.Fatalf("%s: what is told shares something", what(r, o))
	}
	for _, l := range [][]int{r.Anchor.Path, r.Focus.Path, o.Path, o.To} {
		spoil(l)
	}
	if !alike(again, plain) {
		t.Fatalf("kind %d: what is told hangs on what was handed in", o.Kind)
	}
}
