package hold_test

import (
	"fmt"
	"slices"
	"testing"

	"redline/api"
	"redline/hold"
)

// P14.4: paths, by each of the nine kinds.
func TestStepPaths(t *testing.T) {
	out := gone(ofPath())
	wantWent(t, []went{
		{ofPath(0), insert(0), ofPath(1)},
		{ofPath(0, 1, 5), insert(0, 1), ofPath(0, 2, 5)},
		{ofPath(0), insert(1), ofPath(0)},
		{ofPath(1), insert(1, 0), ofPath(1)},
		{ofPath(2), remove(0), ofPath(1)},
		{ofPath(2, 4), remove(2, 1), ofPath(2, 3)},
		{ofPath(0), remove(1), ofPath(0)},
		{ofPath(1), remove(1), out},
		{ofPath(1, 0, 3), remove(1), out},
		{ofPath(1), remove(1, 0), ofPath(1)},
		// A node that is merged is taken into the one ahead of it: its path is that one's then.
		{ofPath(1), merge(2, 1), ofPath(0)},
		{ofPath(1, 3), merge(2, 1), ofPath(0, 5)},
		{ofPath(2), merge(2, 1), ofPath(1)},
		{ofPath(0, 1), merge(2, 1), ofPath(0, 1)},
		{ofPath(4, 2), merge(3, 4, 2), ofPath(4, 1)},
		{ofPath(1), split(2, 1), ofPath(1)},
		{ofPath(2), split(2, 1), ofPath(3)},
		{ofPath(1, 1), split(2, 1), ofPath(1, 1)},
		{ofPath(1, 2, 7), split(2, 1), ofPath(2, 0, 7)},
		{ofPath(1), move(path(1), path(0)), ofPath(0)},
		{ofPath(1, 2), move(path(1), path(3, 4)), ofPath(3, 4, 2)},
		{ofPath(0), move(path(1), path(0)), ofPath(1)},
		{ofPath(2), move(path(0), path(1, 0)), ofPath(1)},
		{ofPath(3), move(path(0), path(3)), ofPath(2)},
		{ofPath(1, 0), set(1), ofPath(1, 0)},
		{ofPath(1), set(1), ofPath(1)},
		{ofPath(0), put(0, "ab", 0), ofPath(0)},
		{ofPath(0), take(0, "ab", 0), ofPath(0)},
		{ofPath(0), choose(), ofPath(0)},
	})
}

// P14.4: the root's path stays, whatever is done.
func TestStepRoot(t *testing.T) {
	for _, o := range []api.Op{insert(0), insert(0, 3), remove(0), merge(1, 1), split(0, 0), move(path(0), path(1)), set(), set(0), put(0, "a"), take(0, "a"), choose(), remove(), insert(), merge(0), split(0), move(nil, nil), move(nil, path(1))} {
		wantWent(t, []went{{ofPath(), o, ofPath()}})
	}
}

// P14.4: points of each affinity, by each of the nine kinds, where nothing comes just at them.
func TestStepPoints(t *testing.T) {
	for aff := range affs(api.PointK) {
		of := func(off int, l ...int) api.Ref { return ofPoint(aff, pt(off, l...)) }
		out := gone(of(0))
		wantWent(t, []went{
			{of(3, 1), insert(1), of(3, 2)},
			{of(3, 1), insert(2), of(3, 1)},
			{of(3, 1), remove(0), of(3, 0)},
			{of(3, 1), remove(1), out},
			{of(0, 1, 2), remove(1), out},
			{of(3, 1), merge(4, 1), of(7, 0)},
			{of(0, 1), merge(4, 1), of(4, 0)},
			{of(4, 0), merge(4, 1), of(4, 0)},
			{of(3, 1, 2), merge(4, 1), of(3, 0, 6)},
			{of(3, 2), split(1, 1), of(3, 3)},
			{of(3, 1), split(1, 1), of(2, 2)},
			{of(3, 1), split(4, 1), of(3, 1)},
			{of(3, 1, 2), split(1, 1), of(3, 2, 1)},
			{of(3, 1), move(path(1), path(0)), of(3, 0)},
			{of(3, 1, 0), move(path(1, 0), path(3)), of(3, 3)},
			{of(3, 1), set(1), of(3, 1)},
			{of(3, 1), put(2, "ab", 1), of(5, 1)},
			{of(3, 1), put(4, "ab", 1), of(3, 1)},
			{of(3, 1), put(0, "ab", 0), of(3, 1)},
			{of(3, 1), put(3, "", 1), of(3, 1)},
			{of(3, 1), take(0, "ab", 1), of(1, 1)},
			{of(3, 1), take(1, "ab", 1), of(1, 1)},
			{of(3, 1), take(2, "ab", 1), of(2, 1)},
			{of(3, 1), take(3, "ab", 1), of(3, 1)},
			{of(3, 1), take(0, "ab", 0), of(3, 1)},
			{of(3, 1), choose(), of(3, 1)},
		})
	}
}

// P14.4: points just where runes come, or where their leaf is split, go by their affinities.
func TestStepPointsJustThere(t *testing.T) {
	const n, f, b = api.NoneA, api.ForwardA, api.BackwardA
	of := func(aff, off int, l ...int) api.Ref { return ofPoint(aff, pt(off, l...)) }
	for _, off := range []int{0, 3} {
		wantWent(t, []went{
			{of(n, off, 1), put(off, "ab", 1), of(n, off, 1)},
			{of(f, off, 1), put(off, "ab", 1), of(f, off+2, 1)},
			{of(b, off, 1), put(off, "ab", 1), of(b, off, 1)},
			{of(n, off, 1), split(off, 1), gone(of(n, 0))},
			{of(f, off, 1), split(off, 1), of(f, 0, 2)},
			{of(b, off, 1), split(off, 1), of(b, off, 1)},
			{of(f, off, 0, 4), split(off, 0, 4), of(f, 0, 0, 5)},
		})
	}
}

// P14.4: ranges of each affinity, the same when they are turned round, by each of the nine kinds, where nothing comes just at their points.
func TestStepRanges(t *testing.T) {
	for aff := range affs(api.RangeK) {
		of := func(a, f api.Point) api.Ref { return ofRange(aff, a, f) }
		a, f, to := pt(1, 1), pt(3, 2), of(pt(1, 1), pt(3, 2))
		out := gone(to)
		for _, x := range []went{
			{to, insert(0), of(pt(1, 2), pt(3, 3))},
			{to, insert(2), of(a, pt(3, 3))},
			{to, remove(0), of(pt(1, 0), pt(3, 1))},
			{to, remove(1), out},
			{to, remove(2), out},
			{of(pt(1, 1, 0), pt(3, 2)), remove(1), out},
			{to, merge(5, 1), of(pt(6, 0), pt(3, 1))},
			{to, merge(5, 2), of(a, pt(8, 1))},
			{to, split(0, 1), of(pt(1, 2), pt(3, 3))},
			{to, split(2, 2), of(a, pt(1, 3))},
			{to, move(path(0), path(1)), of(pt(1, 0), pt(3, 2))},
			{to, move(path(2), path(0)), of(pt(1, 2), pt(3, 0))},
			{to, set(1), to},
			{to, put(0, "ab", 1), of(pt(3, 1), f)},
			{to, put(2, "ab", 2), of(a, pt(5, 2))},
			{to, take(0, "ab", 1), of(pt(0, 1), f)},
			{to, take(0, "ab", 2), of(a, pt(1, 2))},
			{to, choose(), to},
		} {
			turned := func(r api.Ref) api.Ref {
				r.Range = rg(r.Range.Focus, r.Range.Anchor)
				return r
			}
			wantWent(t, []went{x, {turned(x.r), x.o, turned(x.want)}})
		}
	}
}

// P14.4: ranges just where something comes, turned round, and those of one gap, go by their affinities.
func TestStepRangesJustThere(t *testing.T) {
	for _, x := range []struct {
		aff              int
		start, end, both api.Range
	}{
		{api.NoneA, rg(pt(1, 0), pt(5, 0)), rg(pt(1, 0), pt(3, 0)), rg(pt(3, 0), pt(3, 0))},
		{api.ForwardA, rg(pt(3, 0), pt(5, 0)), rg(pt(1, 0), pt(5, 0)), rg(pt(5, 0), pt(5, 0))},
		{api.BackwardA, rg(pt(1, 0), pt(5, 0)), rg(pt(1, 0), pt(3, 0)), rg(pt(3, 0), pt(3, 0))},
		{api.InwardA, rg(pt(3, 0), pt(5, 0)), rg(pt(1, 0), pt(3, 0)), rg(pt(5, 0), pt(5, 0))},
		{api.OutwardA, rg(pt(1, 0), pt(5, 0)), rg(pt(1, 0), pt(5, 0)), rg(pt(3, 0), pt(5, 0))},
	} {
		of := func(r api.Range) api.Ref { return ofRange(x.aff, r.Anchor, r.Focus) }
		turned := func(r api.Range) api.Ref { return ofRange(x.aff, r.Focus, r.Anchor) }
		r := rg(pt(1, 0), pt(3, 0))
		wantWent(t, []went{
			{of(r), put(1, "ab", 0), of(x.start)},
			{turned(r), put(1, "ab", 0), turned(x.start)},
			{of(r), put(3, "ab", 0), of(x.end)},
			{turned(r), put(3, "ab", 0), turned(x.end)},
			{ofRange(x.aff, pt(3, 0), pt(3, 0)), put(3, "ab", 0), of(x.both)},
		})
	}
	at := pt(3, 0)
	for aff, want := range map[int]api.Ref{
		api.NoneA:     gone(ofRange(api.NoneA, at, at)),
		api.ForwardA:  ofRange(api.ForwardA, pt(0, 1), pt(0, 1)),
		api.BackwardA: ofRange(api.BackwardA, at, at),
		api.InwardA:   ofRange(api.InwardA, pt(0, 1), pt(0, 1)),
		api.OutwardA:  ofRange(api.OutwardA, at, pt(0, 1)),
	} {
		wantWent(t, []went{{ofRange(aff, at, at), split(3, 0), want}})
	}
	// One point that is taken out takes the range out.
	wantWent(t, []went{{ofRange(api.NoneA, pt(1, 0), at), split(3, 0), gone(ofRange(api.NoneA, at, at))}})
}

// each is one operation of each kind, which moves, or takes out, most of what stands in a small tree.
func each() []api.Op {
	return []api.Op{insert(0), remove(1), remove(0), merge(2, 1), split(1, 0), move(path(0), path(1, 0)), set(0), put(0, "ab", 0), take(0, "ab", 0), choose(), {}, {Kind: -1, Path: path(0)}, {Kind: 10, Path: path(-1)}}
}

// P14.4: what is not Live stays as it is, whatever stands in it.
func TestStepDead(t *testing.T) {
	l := mixed()
	for kind, give := range stray() {
		for _, g := range give {
			r := api.Ref{Id: len(l), Kind: kind + 1, Aff: len(l)}
			g(&r)
			l = append(l, r)
		}
	}
	for i := range l {
		l[i].Live = false
	}
	for _, o := range each() {
		wantList(t, few(o), hold.Step(l, o), l)
	}
}

// P14.4: what is Live and of no kind is taken out, and keeps its Id, Kind and Aff.
func TestStepKinds(t *testing.T) {
	for _, kind := range append(strange(), 4, 5) {
		for i, r := range append(mixed(), ofPath(), api.Ref{}) {
			r.Id, r.Kind, r.Aff, r.Live = 3*i-5, kind, i%6-1, true
			for _, o := range each() {
				wantWent(t, []went{{r, o, gone(r)}})
			}
		}
	}
}

// P14.4: of an affinity that its kind does not have nothing is told of points and ranges; a path has none to be asked of.
func TestStepAffs(t *testing.T) {
	for _, aff := range append(odd(), -3, 5, 6, 256, 1<<32+api.InwardA) {
		for _, o := range each() {
			for _, r := range refs(ofPoint(aff, pt(1, 0)), ofPoint(aff, pt(0, 1, 2)), ofRange(aff, pt(0, 0), pt(2, 0)), ofRange(aff, pt(0, 3), pt(0, 3))) {
				wantWent(t, []went{{r, o, gone(r)}})
			}
		}
		r, want := ofPath(0, 1, 5), ofPath(0, 2, 5)
		r.Aff, want.Aff = aff, aff
		wantWent(t, []went{{r, insert(0, 1), want}})
	}
	for _, aff := range []int{api.InwardA, api.OutwardA} {
		r := ofPoint(aff, pt(1, 0))
		wantWent(t, []went{{r, insert(0), gone(r)}, {r, choose(), gone(r)}})
	}
}

// P14.4: of numbers that are no places nothing is told: what has one is taken out, and by an operation that has one all is.
func TestStepNumbers(t *testing.T) {
	for _, i := range beyond() {
		for _, o := range []api.Op{insert(3), remove(3), merge(1, 3), split(1, 3), move(path(3), path(4)), set(3), put(0, "a", 3), take(0, "a", 3), choose(), {}} {
			for _, r := range refs(ofPath(i), ofPath(1, i), ofPoint(api.ForwardA, pt(0, i)), ofPoint(api.NoneA, pt(i, 0)), ofRange(api.InwardA, pt(i, 0), pt(0, 0)), ofRange(api.OutwardA, pt(0, 0), pt(0, 0, i))) {
				wantWent(t, []went{{r, o, gone(r)}})
			}
		}
		for _, kind := range append(nine(), 0, 10) {
			for _, o := range []api.Op{{Kind: kind, Path: path(i)}, {Kind: kind, Path: path(9, i)}, {Kind: kind, Path: path(9), To: path(i)}, {Kind: kind, Pos: i}} {
				for _, r := range append(whole(), ofPath()) {
					wantWent(t, []went{{r, o, gone(r)}})
				}
			}
		}
	}
	for _, r := range whole() {
		wantWent(t, []went{{r, merge(0, 0), gone(r)}, {r, merge(3, 1, 0), gone(r)}})
	}
}

// P14.4: numbers as great as places may be are places.
func TestStepGreatNumbers(t *testing.T) {
	const far = api.MaxCap
	wantWent(t, []went{
		{ofPath(far), insert(0), ofPath(far + 1)},
		{ofPath(far, far), remove(far, 0), ofPath(far, far-1)},
		{ofPoint(api.ForwardA, pt(far, far)), put(far, "ab", far), ofPoint(api.ForwardA, pt(far+2, far))},
		{ofRange(api.OutwardA, pt(far, 1), pt(far, 1)), split(far, 1), ofRange(api.OutwardA, pt(far, 1), pt(0, 2))},
	})
}

// P14.4: an operation of no kind, or without the fields of its kind, moves nothing.
func TestStepStrangeOps(t *testing.T) {
	for _, r := range append(whole(), ofPath(), ofPath(3, 3)) {
		for _, kind := range append(strange(), nine()...) {
			wantWent(t, []went{{r, api.Op{Kind: kind}, r}})
		}
		for _, kind := range strange() {
			wantWent(t, []went{{r, api.Op{Kind: kind, Path: path(0), To: path(1), Pos: 1, Text: []rune("ab")}, r}})
		}
	}
}

// P14.4: a ref goes by itself: all of a list, in order, as many as there are, also where several have one Id.
func TestStepLists(t *testing.T) {
	l := refs(ofPath(0), dead(ofPath(0)), ofPath(1, 0), ofPoint(api.ForwardA, pt(0, 0)), ofPoint(api.BackwardA, pt(0, 0)), ofPoint(api.NoneA, pt(1, 1, 0)), ofRange(api.OutwardA, pt(0, 0), pt(1, 1, 0)), api.Ref{Id: 3, Live: true, Path: path(1)}, ofPath())
	behind := refs(ofPath(0), dead(ofPath(0)), gone(ofPath()), ofPoint(api.ForwardA, pt(2, 0)), ofPoint(api.BackwardA, pt(0, 0)), gone(ofPoint(api.NoneA, pt(0))), gone(ofRange(api.OutwardA, pt(0), pt(0))), api.Ref{Id: 3}, ofPath())
	wantList(t, "list", hold.Step(hold.Step(l, put(0, "ab", 0)), remove(1)), behind)
	for _, many := range []int{0, 1, api.MaxRefs, 1 << 12} {
		got := hold.Step(hold.Step(slices.Repeat(l, many), put(0, "ab", 0)), remove(1))
		wantList(t, fmt.Sprint(many, " times"), got, slices.Repeat(behind, many))
	}
	if got := hold.Step(nil, insert(0)); len(got) != 0 {
		t.Fatalf("got %v", got)
	}
}

// P14.4: deep paths go as others do.
func TestStepDeep(t *testing.T) {
	down := make([]int, 1<<16)
	to := slices.Clone(down)
	to[0] = 1
	wantWent(t, []went{
		{ofPath(down...), insert(0), ofPath(to...)},
		{ofPoint(api.ForwardA, pt(1, down...)), put(1, "ab", down...), ofPoint(api.ForwardA, pt(3, down...))},
		{ofRange(api.InwardA, pt(1, down...), pt(0, 5)), insert(0), ofRange(api.InwardA, pt(1, to...), pt(0, 6))},
		{ofRange(api.InwardA, pt(0, 5), pt(1, down...)), remove(down[1:]...), gone(ofRange(api.InwardA, pt(0), pt(0)))},
	})
}
