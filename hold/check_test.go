package hold_test

import (
	"math"
	"slices"
	"testing"

	"redline/api"
	"redline/point"
	"redline/tree"
)

// P14.1: refs of each kind, at leaves and at elements, with the errors of the layers below.
func TestCheck(t *testing.T) {
	n := tr(doc)
	for _, p := range [][]int{nil, path(0), path(1), path(1, 0), path(1, 1), path(1, 2), path(2), path(2, 0)} {
		wantCheck(t, n, ofPath(p...), api.OK)
	}
	for _, p := range [][]int{path(3), path(0, 0), path(1, 3), path(1, 1, 0), path(1, 2, 0), path(2, 1), path(2, 0, 0), path(3, 0)} {
		wantCheck(t, n, ofPath(p...), api.ErrPath)
	}
	for _, x := range []struct {
		p api.Point
		e api.Errno
	}{
		{pt(0, 0), api.OK}, {pt(1, 0), api.OK}, {pt(3, 0), api.OK}, {pt(1, 1, 0), api.OK}, {pt(0, 1, 2), api.OK}, {pt(2, 2, 0), api.OK},
		{pt(4, 0), api.ErrPos}, {pt(-1, 0), api.ErrPos}, {pt(1, 1, 2), api.ErrPos}, {pt(3, 2, 0), api.ErrPos}, {pt(math.MinInt, 0), api.ErrPos}, {pt(math.MaxInt, 2, 0), api.ErrPos}, {pt(1<<32, 0), api.ErrPos},
		{pt(0), api.ErrLeaf}, {pt(0, 1), api.ErrLeaf}, {pt(0, 1, 1), api.ErrLeaf}, {pt(9, 2), api.ErrLeaf}, {pt(-1), api.ErrLeaf},
		{pt(0, 3), api.ErrPath}, {pt(0, 0, 0), api.ErrPath}, {pt(-9, 1, 1, 0), api.ErrPath}, {pt(9, -1), api.ErrPath},
	} {
		for aff := range affs(api.PointK) {
			wantCheck(t, n, ofPoint(aff, x.p), x.e)
		}
		for aff := range affs(api.RangeK) {
			wantCheck(t, n, ofRange(aff, x.p, x.p), x.e)
			wantCheck(t, n, ofRange(aff, x.p, pt(1, 1, 0)), x.e)
			wantCheck(t, n, ofRange(aff, pt(2, 2, 0), x.p), x.e)
		}
	}
}

// P14.1: the Anchor's error is told ahead of the Focus'.
func TestCheckAnchorFirst(t *testing.T) {
	n, wrong := tr(doc), map[api.Errno]api.Point{api.ErrPath: pt(0, 5), api.ErrLeaf: pt(0, 1), api.ErrPos: pt(4, 0)}
	for e, a := range wrong {
		for _, f := range wrong {
			for aff := range affs(api.RangeK) {
				wantCheck(t, n, ofRange(aff, a, f), e)
			}
		}
	}
}

// P14.1: paths with numbers that no place has lead nowhere.
func TestCheckOddPaths(t *testing.T) {
	n := tr(doc)
	for _, i := range odd() {
		for _, p := range [][]int{path(i), path(1, i), path(i, 0), path(1, i, 0), path(0, i), path(i, i)} {
			wantCheck(t, n, ofPath(p...), api.ErrPath)
			wantCheck(t, n, ofPoint(api.NoneA, pt(0, p...)), api.ErrPath)
			wantCheck(t, n, ofRange(api.NoneA, pt(0, p...), pt(0, 0)), api.ErrPath)
			wantCheck(t, n, ofRange(api.NoneA, pt(0, 0), pt(0, p...)), api.ErrPath)
		}
	}
}

// whole are refs that may be in doc, one of each kind.
func whole() []api.Ref {
	return refs(ofPath(1, 0), ofPoint(api.NoneA, pt(1, 0)), ofRange(api.NoneA, pt(1, 0), pt(2, 2, 0)))
}

// broken are such of which something stands nowhere in doc.
func broken() []api.Ref {
	return refs(ofPath(5), ofPoint(api.NoneA, pt(0, 5)), ofPoint(api.NoneA, pt(0, 1)), ofPoint(api.NoneA, pt(9, 0)), ofRange(api.NoneA, pt(0, 5), pt(9, 0)), ofRange(api.NoneA, pt(0, 0), pt(0, 1)))
}

// P14.1: each kind has its affinities, and no others; what has none of them is told ahead of where it stands.
func TestCheckAffs(t *testing.T) {
	n := tr(doc)
	unfit := append(odd(), -5, -4, -3, 5, 6, 7, 8, 256, 256+api.ForwardA, 1<<32+api.BackwardA)
	for _, r := range whole() {
		for aff := range 9 {
			r.Aff = aff
			if aff < affs(r.Kind) {
				wantCheck(t, n, r, api.OK)
			} else {
				wantCheck(t, n, r, api.ErrArg)
			}
		}
	}
	for _, r := range slices.Concat(whole(), broken()) {
		for _, aff := range append(unfit, affs(r.Kind)) {
			r.Aff = aff
			wantCheck(t, n, r, api.ErrArg)
		}
	}
}

// P14.1: a Kind is none, whatever else stands there.
func TestCheckKinds(t *testing.T) {
	n := tr(doc)
	for _, kind := range append(strange(), 4, 5, 9) {
		for _, r := range append(slices.Concat(whole(), broken()), api.Ref{}, api.Ref{Live: true}, api.Ref{Id: kind}) {
			for aff := range 5 {
				r.Kind, r.Aff = kind, aff
				wantCheck(t, n, r, api.ErrArg)
			}
		}
	}
}

// stray are changes each of which gives a ref a Path, a Point, or a Range that is not zero, by the kinds that have one.
func stray() map[int][]func(*api.Ref) {
	out := map[int][]func(*api.Ref){}
	for _, l := range [][]int{path(0), path(1, 0), path(-1), path(math.MaxInt)} {
		out[api.PathK] = append(out[api.PathK], func(r *api.Ref) { r.Path = l })
	}
	for _, p := range []api.Point{pt(0, 0), pt(1), pt(1, 0), pt(-1), pt(math.MinInt), pt(0, -1), pt(1 << 32)} {
		out[api.PointK] = append(out[api.PointK], func(r *api.Ref) { r.Point = p })
		out[api.RangeK] = append(out[api.RangeK],
			func(r *api.Ref) { r.Range = rg(p, p) },
			func(r *api.Ref) { r.Range = rg(p, pt(0)) },
			func(r *api.Ref) { r.Range = rg(pt(0), p) },
		)
	}
	return out
}

// P14.1: what a kind does not have is zero, each by itself; else that is told ahead of where the ref stands.
func TestCheckStrays(t *testing.T) {
	n := tr(doc)
	for _, r := range slices.Concat(whole(), broken()) {
		for kind, l := range stray() {
			for _, give := range l {
				x := r
				give(&x)
				if kind != r.Kind {
					wantCheck(t, n, x, api.ErrArg)
				}
			}
		}
	}
}

// P14.1, R3: a list without elements is zero, nil or not.
func TestCheckEmptyLists(t *testing.T) {
	n, none := tr(doc), pt(0, path(4, 4)[:0]...)
	for _, r := range whole() {
		if r.Kind != api.PathK {
			r.Path = none.Path
		}
		if r.Kind != api.PointK {
			r.Point = none
		}
		if r.Kind != api.RangeK {
			r.Range = rg(none, none)
		}
		wantCheck(t, n, r, api.OK)
	}
	wantCheck(t, n, ofPath(), api.OK)
	wantCheck(t, n, ofPath(none.Path...), api.OK)
	wantCheck(t, leaf("a"), ofPoint(api.NoneA, pt(1, none.Path...)), api.OK)
}

// P14.1: Id and Live are not looked at.
func TestCheckIdLive(t *testing.T) {
	n := tr(doc)
	for _, id := range append(odd(), 0, 1, 7) {
		for _, live := range []bool{true, false} {
			for _, r := range whole() {
				r.Id, r.Live = id, live
				wantCheck(t, n, r, api.OK)
				r.Aff = 5
				wantCheck(t, n, r, api.ErrArg)
			}
			wantCheck(t, n, api.Ref{Id: id, Live: live}, api.ErrArg)
			wantCheck(t, n, api.Ref{Id: id, Live: live, Kind: api.PathK, Path: path(5)}, api.ErrPath)
			wantCheck(t, n, api.Ref{Id: id, Live: live, Kind: api.PointK, Point: pt(4, 0)}, api.ErrPos)
		}
	}
}

// P14.1: the tree is a leaf.
func TestCheckOnLeaf(t *testing.T) {
	n := leaf("ab")
	wantCheck(t, n, ofPath(), api.OK)
	wantCheck(t, n, ofPath(0), api.ErrPath)
	wantCheck(t, n, ofPoint(api.ForwardA, pt(2)), api.OK)
	wantCheck(t, n, ofPoint(api.ForwardA, pt(3)), api.ErrPos)
	wantCheck(t, n, ofRange(api.OutwardA, pt(2), pt(0)), api.OK)
	wantCheck(t, n, ofRange(api.OutwardA, pt(0), pt(0, 0)), api.ErrPath)
	wantCheck(t, elem(), ofPoint(api.ForwardA, pt(0)), api.ErrLeaf)
}

// P14.1: what the layers below tell, of all small trees, also such that may not be, and all small paths.
func TestCheckByWords(t *testing.T) {
	all := places(3, -1, 2)
	for _, n := range trees(4, true) {
		for i, p := range all {
			_, e := tree.Get(n, p)
			wantCheck(t, n, ofPath(p...), e)
			for off := -1; off < 4; off++ {
				a, f := pt(off, p...), pt(0, all[(i*7+off+1)%len(all)]...)
				wantCheck(t, n, ofPoint(api.BackwardA, a), point.Check(n, a))
				e := point.Check(n, a)
				if e == api.OK {
					e = point.Check(n, f)
				}
				wantCheck(t, n, ofRange(api.InwardA, a, f), e)
			}
		}
	}
}

// P14.1: in great and in deep trees, as often as a list has refs.
func TestCheckGreat(t *testing.T) {
	n := elem(leaf("a"), elem(slices.Repeat([]api.Node{leaf("")}, 1<<18)...))
	for range 4 * api.MaxRefs {
		wantCheck(t, n, ofPath(), api.OK)
		wantCheck(t, n, ofPath(1), api.OK)
		wantCheck(t, n, ofPath(1, 1<<18-1), api.OK)
		wantCheck(t, n, ofPath(1, 1<<18), api.ErrPath)
	}
	wantCheck(t, n, ofRange(api.InwardA, pt(1, 0), pt(0, 1, 1<<18-1)), api.OK)
	down := make([]int, 1<<16)
	deep := leaf("abc")
	for range down {
		deep = elem(deep)
	}
	wantCheck(t, deep, ofPath(down...), api.OK)
	wantCheck(t, deep, ofPath(append(down, 0)...), api.ErrPath)
	wantCheck(t, deep, ofPoint(api.NoneA, pt(3, down...)), api.OK)
	wantCheck(t, deep, ofPoint(api.NoneA, pt(4, down...)), api.ErrPos)
	wantCheck(t, deep, ofRange(api.NoneA, pt(3, down...), pt(0, down[1:]...)), api.ErrLeaf)
}
