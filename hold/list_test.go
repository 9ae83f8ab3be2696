package hold_test

import (
	"slices"
	"testing"

	"redline/api"
	"redline/hold"
)

// mixed is a list of refs of all kinds, live and not, some of which may not be.
func mixed() []api.Ref {
	l := append(whole(), broken()...)
	l = append(l, api.Ref{}, api.Ref{Id: -3, Kind: 9, Aff: 9, Path: path(-1)}, dead(ofPoint(api.ForwardA, pt(4, 4))), dead(ofPath(2)), ofRange(7, pt(-1, 0), pt(0, 9)))
	for i := range l {
		l[i].Id = i * 3 % 7
	}
	return l
}

// P14.2: a ref comes behind those of a list, with the Id, and live, whatever it had of these; those stay as they are.
func TestAdd(t *testing.T) {
	n := tr(doc)
	for _, l := range [][]api.Ref{nil, {}, refs(ofPath(2)), whole(), mixed(), slices.Repeat(whole(), 85)} {
		for _, r := range slices.Concat(whole(), refs(ofPath(), ofPoint(api.BackwardA, pt(0, 1, 2)), ofRange(api.OutwardA, pt(2, 2, 0), pt(0, 0)))) {
			for _, id := range append(odd(), 0, 1, 7) {
				for _, live := range []bool{true, false} {
					in, want := r, r
					in.Id, in.Live = id/2+5, live
					want.Id, want.Live = id, true
					got, e := hold.Add(n, l, id, in)
					if e != api.OK {
						t.Fatalf("%s: got %d", few(in), e)
					}
					wantList(t, few(in), got, slices.Concat(l, refs(want)))
				}
			}
		}
	}
}

// P14.2: one by one, as many as there may be.
func TestAddAll(t *testing.T) {
	n := tr(doc)
	var l, want []api.Ref
	for i := range api.MaxRefs {
		r := whole()[i%3]
		next, e := hold.Add(n, l, i, r)
		if e != api.OK {
			t.Fatalf("%d: got %d", i, e)
		}
		r.Id = i
		l, want = next, append(want, r)
	}
	wantList(t, "all", l, want)
	wantNotAdded(t, l, ofPath(0), api.ErrLong)
}

func wantNotAdded(t *testing.T, l []api.Ref, r api.Ref, want api.Errno) {
	t.Helper()
	if got, e := hold.Add(tr(doc), l, 3, r); e != want || len(got) != 0 {
		t.Fatalf("%s to %d: got %d refs, %d, want %d", few(r), len(l), len(got), e, want)
	}
}

// P14.2: a list of as many as there may be, or of more, takes none, whatever stands in it; what is wrong with the ref is told ahead of that.
func TestAddLong(t *testing.T) {
	few := []int{0, 1, 255}
	long := []int{api.MaxRefs, api.MaxRefs + 1, 3 * api.MaxRefs, 1 << 16}
	for _, kind := range []api.Ref{ofPath(0), {}} {
		for _, many := range few {
			if got, e := hold.Add(tr(doc), slices.Repeat(refs(kind), many), 3, ofPath(0)); e != api.OK || len(got) != many+1 {
				t.Fatalf("%d: got %d, %d", many, len(got), e)
			}
		}
		for _, many := range long {
			l := slices.Repeat(refs(kind), many)
			for _, r := range whole() {
				wantNotAdded(t, l, r, api.ErrLong)
			}
		}
		for _, many := range append(few, long...) {
			l := slices.Repeat(refs(kind), many)
			for _, r := range append(broken(), api.Ref{}, api.Ref{Kind: api.PathK, Aff: 1}, api.Ref{Kind: api.PathK, Point: pt(1)}) {
				wantNotAdded(t, l, r, hold.Check(tr(doc), r))
			}
		}
	}
}

// byIds are refs with these Ids, each another one.
func byIds(ids ...int) []api.Ref {
	var out []api.Ref
	for i, id := range ids {
		r := whole()[i%3]
		r.Id, r.Live = id, i%2 == 0
		if i > 2 {
			r.Kind, r.Aff = i, i
		}
		out = append(out, r)
	}
	return out
}

// P14.3: the first one that has the Id is told, or taken out of the list, the other ones stay.
func TestGetFree(t *testing.T) {
	for _, ids := range [][]int{{4}, {1, 2}, {2, 1, 3}, {5, 3, 5, 0, 3, -1, 5}, {7, 7, 7}, {0, 0}, odd(), append(odd(), odd()...)} {
		l := byIds(ids...)
		for _, id := range append(odd(), -3, 0, 1, 2, 3, 4, 5, 6, 7, 8) {
			at := slices.Index(ids, id)
			if at < 0 {
				wantNone(t, l, id)
				continue
			}
			if r, e := hold.Get(l, id); e != api.OK || !sameRef(r, l[at]) {
				t.Fatalf("%d of %v: got %s, %d", id, ids, few(r), e)
			}
			rest, e := hold.Free(l, id)
			if e != api.OK {
				t.Fatalf("%d of %v: got %d", id, ids, e)
			}
			wantList(t, few(ids), rest, slices.Concat(l[:at], l[at+1:]))
		}
	}
	for _, l := range [][]api.Ref{nil, {}, mixed()[:0]} {
		wantNone(t, l, 0)
		wantNone(t, l, 1)
	}
}

func wantNone(t *testing.T, l []api.Ref, id int) {
	t.Helper()
	if r, e := hold.Get(l, id); e != api.ErrNone || !sameRef(r, api.Ref{}) {
		t.Fatalf("%d of %s: got %s, %d", id, few(l), few(r), e)
	}
	if rest, e := hold.Free(l, id); e != api.ErrNone || len(rest) != 0 {
		t.Fatalf("%d of %s: got %s, %d", id, few(l), few(rest), e)
	}
}

// P14.3: of lists that are longer than one may be.
func TestGetFreeLong(t *testing.T) {
	l := make([]api.Ref, 1<<12)
	for i := range l {
		l[i] = ofPath(i)
		l[i].Id = i % 1000
	}
	for _, id := range []int{0, 1, 500, 999} {
		if r, e := hold.Get(l, id); e != api.OK || !sameRef(r, l[id]) {
			t.Fatalf("%d: got %s, %d", id, few(r), e)
		}
		rest, e := hold.Free(l, id)
		if e != api.OK {
			t.Fatalf("%d: got %d", id, e)
		}
		wantList(t, "long", rest, slices.Concat(l[:id], l[id+1:]))
	}
	wantNone(t, l, 1000)
}

// P14.2, P14.3: what was added is told by its Id, and freed again; where two have it, one at a time.
func TestAddGetFree(t *testing.T) {
	n, l := tr(doc), byIds(4, 6)
	for _, r := range whole() {
		more, _ := hold.Add(n, l, 5, r)
		r.Id = 5
		if got, e := hold.Get(more, 5); e != api.OK || !sameRef(got, r) {
			t.Fatalf("got %s, %d", few(got), e)
		}
		rest, _ := hold.Free(more, 5)
		wantList(t, "freed", rest, l)
		twice, _ := hold.Add(n, more, 5, ofPath(2))
		rest, _ = hold.Free(twice, 5)
		wantList(t, "freed of two", rest, slices.Concat(l, twice[3:]))
		rest, _ = hold.Free(rest, 5)
		wantList(t, "freed twice", rest, l)
		wantNone(t, rest, 5)
	}
}
