package hold_test

import (
	"testing"

	"redline/api"
	"redline/hold"
	"redline/xpath"
	"redline/xpoint"
	"redline/xrange"
)

// taken is what P14.4 says of one ref.
func taken(r api.Ref, o api.Op) api.Ref {
	if !r.Live {
		return r
	}
	var is bool
	out := gone(r)
	switch r.Kind {
	case api.PathK:
		out.Path, is = xpath.Move(r.Path, o)
	case api.PointK:
		out.Point, is = xpoint.Move(r.Point, o, r.Aff)
	case api.RangeK:
		out.Range, is = xrange.Move(r.Range, o, r.Aff)
	}
	if !is {
		return gone(r)
	}
	out.Live = true
	return out
}

// small are refs of all kinds and affinities, some of none, at all small paths, live, but for some of them.
func small() []api.Ref {
	all := places(2, 0, 2)
	var out []api.Ref
	for i, p := range all {
		out = append(out, ofPath(p...))
		for off := range 3 {
			for aff := -1; aff < 6; aff++ {
				a, f := pt(off, p...), pt((off+aff+1)%3, all[(i*5+aff+1)%len(all)]...)
				out = append(out, ofPoint(aff, a), ofRange(aff, a, a), ofRange(aff, a, pt(1, p...)), ofRange(aff, a, f))
			}
		}
	}
	for i := range out {
		out[i].Id = i / 2
		if i%7 == 3 {
			out[i].Live = false
		}
		if i%11 == 5 {
			// What was of one kind is of none.
			out[i] = api.Ref{Id: i, Kind: i % 3 * 4, Aff: out[i].Aff, Live: out[i].Live}
		}
	}
	return out
}

// P14.4: all small refs, in one list, by all small operations.
func TestStepByWords(t *testing.T) {
	l := small()
	for _, q := range places(2, -1, 2) {
		for _, kind := range append(nine(), 0, 10) {
			for pos := range 3 {
				for _, to := range [][]int{nil, path(1), path(0, 1), path(2, 0)} {
					if to != nil && kind != api.MoveNode {
						continue
					}
					wantStep(t, l, api.Op{Kind: kind, Path: q, To: to, Pos: pos, Text: []rune("ab")})
				}
			}
		}
	}
}

func wantStep(t *testing.T, l []api.Ref, o api.Op) {
	t.Helper()
	want := make([]api.Ref, len(l))
	for i, r := range l {
		want[i] = taken(r, o)
	}
	wantList(t, few(o), hold.Step(l, o), want)
}

// P14.4: what a live ref has that its Kind does not have is nothing to where it goes.
func TestStepStrays(t *testing.T) {
	for _, r := range append(whole(), ofPath(), ofPoint(api.ForwardA, pt(0, 0)), ofRange(api.OutwardA, pt(0, 1), pt(0, 1))) {
		for _, kind := range three() {
			if kind == r.Kind {
				continue
			}
			for _, give := range stray()[kind] {
				for _, o := range each() {
					x, want := r, taken(r, o)
					give(&x)
					if want.Live {
						give(&want)
					}
					wantList(t, few(x)+" by "+few(o), hold.Step(refs(x), o), refs(want))
				}
			}
		}
	}
}
