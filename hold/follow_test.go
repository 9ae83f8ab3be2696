package hold_test

import (
	"slices"
	"strconv"
	"testing"

	"redline/api"
	"redline/hold"
	"redline/op"
)

// number gives each node of a tree a property of its own, and the leaves texts of none to two runes, no two of which are the same.
func number(n *api.Node, next *int) {
	*next++
	n.Props = []api.Prop{{K: "id", V: strconv.Itoa(*next)}}
	n.Kids = slices.Clone(n.Kids)
	n.Text = nil
	for i := range *next % 3 {
		if n.Leaf {
			n.Text = append(n.Text, rune('A'+3**next+i))
		}
	}
	for i := range n.Kids {
		number(&n.Kids[i], next)
	}
}

// docs are all trees of at most so many nodes with an element as their root, numbered from some numbers on, so that each leaf has texts of each length.
func docs(most int) []api.Node {
	var out []api.Node
	for _, n := range trees(most, false) {
		for from := range 3 {
			next := from
			x := n
			number(&x, &next)
			if !n.Leaf {
				out = append(out, x)
			}
		}
	}
	return out
}

// visit goes through a tree, each node ahead of its Kids.
func visit(n api.Node, p []int, look func(n api.Node, p []int)) {
	look(n, p)
	for i, k := range n.Kids {
		visit(k, slices.Concat(p, path(i)), look)
	}
}

// pathsOf are all paths of a tree, gaps all its points.
func pathsOf(n api.Node) [][]int {
	var out [][]int
	visit(n, nil, func(_ api.Node, p []int) { out = append(out, p) })
	return out
}

func gaps(n api.Node) []api.Point {
	var out []api.Point
	visit(n, nil, func(x api.Node, p []int) {
		for off := range len(x.Text) + 1 {
			if x.Leaf {
				out = append(out, pt(off, p...))
			}
		}
	})
	return out
}

// triesAt are operations at a node that may be done, and some that can not.
func triesAt(x api.Node, p []int, all [][]int) []api.Op {
	o := remove(p...)
	o.Node = x
	out := []api.Op{o}
	for _, k := range []api.Node{leaf("xy"), tr(`{type:x}["xy"[[]"z"]]`)} {
		for _, q := range [][]int{p, slices.Concat(p, path(len(x.Kids)))} {
			o := insert(q...)
			o.Node = k
			out = append(out, o)
		}
	}
	for pos := range 4 {
		o := merge(pos, p...)
		o.Old = x.Props
		out = append(out, o, split(pos, p...), put(pos, "xy", p...))
		for end := pos; end <= len(x.Text); end++ {
			out = append(out, take(pos, string(x.Text[pos:end]), p...))
		}
	}
	o = set(p...)
	o.New = []api.Prop{{K: "a", V: "1"}}
	out = append(out, o)
	for _, to := range all {
		out = append(out, move(p, to), move(p, slices.Concat(to, path(0))), move(p, slices.Concat(to, path(1))))
	}
	return out
}

// eachDone looks at each operation that op.Apply does on each small tree, and at the tree behind it; of each kind there must be some.
func eachDone(t *testing.T, most int, look func(n api.Node, o api.Op, m api.Node)) {
	t.Helper()
	many := map[int]int{}
	for _, n := range docs(most) {
		var try []api.Op
		all := pathsOf(n)
		visit(n, nil, func(x api.Node, p []int) { try = append(try, triesAt(x, p, all)...) })
		for _, p := range gaps(n) {
			o := choose()
			o.Into = api.Sel{Is: true, Range: rg(p, p)}
			try = append(try, o)
		}
		for _, o := range try {
			if m, _, e := op.Apply(n, api.Sel{}, o); e == api.OK {
				many[o.Kind]++
				look(n, o, m)
			}
		}
	}
	for _, kind := range nine() {
		if many[kind] < 10 {
			t.Fatalf("kind %d: only %d were done", kind, many[kind])
		}
	}
}

// refsOf are refs of all paths and points of a tree, and of all its ranges, each with all affinities.
func refsOf(n api.Node) []api.Ref {
	var out []api.Ref
	for _, p := range pathsOf(n) {
		out = append(out, ofPath(p...))
	}
	for _, a := range gaps(n) {
		for aff := range affs(api.PointK) {
			out = append(out, ofPoint(aff, a))
		}
		for _, f := range gaps(n) {
			for aff := range affs(api.RangeK) {
				out = append(out, ofRange(aff, a, f))
			}
		}
	}
	return out
}

// P14.5: behind an operation that was done a ref is one that may be, or is not Live, and nothing stands in it then.
func TestMayBe(t *testing.T) {
	eachDone(t, 4, func(n api.Node, o api.Op, m api.Node) {
		l := refsOf(n)
		for i, r := range hold.Step(l, o) {
			wantCheck(t, n, l[i], api.OK)
			if !r.Live && !sameRef(r, gone(l[i])) {
				t.Fatalf("%s by %s: something is left: %s", few(l[i]), few(o), few(r))
			}
			if e := hold.Check(m, r); r.Live && e != api.OK {
				t.Fatalf("%s by %s: %s may not be: %d", few(l[i]), few(o), few(r), e)
			}
		}
	})
}

// runes are the points just ahead of each rune of a tree.
func runes(n api.Node) map[rune]api.Point {
	out := map[rune]api.Point{}
	visit(n, nil, func(x api.Node, p []int) {
		for off, c := range x.Text {
			out[c] = pt(off, p...)
		}
	})
	return out
}

// wantBeside looks that a point stands beside the rune beside which it stood, if it goes by that one, and if that is there; it tells whether it is.
func wantBeside(t *testing.T, name string, n, m api.Node, p api.Point, aff int, got api.Point) bool {
	t.Helper()
	by := map[int]int{api.ForwardA: 0, api.BackwardA: 1}
	far, is := by[aff]
	if !is {
		return false
	}
	p.Off -= far
	for c, ahead := range runes(n) {
		at, is := runes(m)[c]
		if !is || !samePoint(ahead, p) {
			continue
		}
		at.Off += far
		if !samePoint(got, at) {
			t.Fatalf("%s: stands at %v, not at %v, beside %q", name, got, at, c)
		}
		return true
	}
	return false
}

// P14.5: a forward point stands ahead of the rune ahead of which it stood, as long as that is there, a backward one behind the rune behind which it stood.
func TestBesideRunes(t *testing.T) {
	some := map[int]int{}
	eachDone(t, 4, func(n api.Node, o api.Op, m api.Node) {
		for _, p := range gaps(n) {
			for aff := range affs(api.PointK) {
				r := hold.Step(refs(ofPoint(aff, p)), o)[0]
				if wantBeside(t, few(p)+" by "+few(o), n, m, p, aff, r.Point) {
					some[o.Kind*10+aff]++
				}
			}
		}
	})
	for _, kind := range nine() {
		if some[kind*10+api.ForwardA] < 10 || some[kind*10+api.BackwardA] < 10 {
			t.Errorf("kind %d: only so many stood beside runes: %v", kind, some)
		}
	}
}

// ends are the affinities of a range's Anchor and Focus.
func ends(r api.Ref) (anchor, focus int) {
	start, end := r.Aff, r.Aff
	a, f := r.Range.Anchor, r.Range.Focus
	switch r.Aff {
	case api.InwardA:
		start, end = api.ForwardA, api.BackwardA
		if samePoint(a, f) {
			end = api.ForwardA
		}
	case api.OutwardA:
		start, end = api.BackwardA, api.ForwardA
	}
	if c := slices.Compare(f.Path, a.Path); c < 0 || c == 0 && f.Off < a.Off {
		return end, start
	}
	return start, end
}

// P14.5: a range's points do as points of its affinity, as long as it is live.
func TestRangesBesideRunes(t *testing.T) {
	eachDone(t, 4, func(n api.Node, o api.Op, m api.Node) {
		for _, r := range refsOf(n) {
			if got := hold.Step(refs(r), o)[0]; r.Kind == api.RangeK && got.Live {
				anchor, focus := ends(r)
				wantBeside(t, few(r)+" by "+few(o), n, m, r.Range.Anchor, anchor, got.Range.Anchor)
				wantBeside(t, few(r)+" by "+few(o), n, m, r.Range.Focus, focus, got.Range.Focus)
			}
		}
	})
}

// ids are the paths of a tree's nodes by the property that each has of its own.
func ids(n api.Node) map[string][]int {
	out := map[string][]int{}
	visit(n, nil, func(x api.Node, p []int) {
		for _, k := range x.Props {
			if k.K == "id" {
				out[k.V] = p
			}
		}
	})
	return out
}

// P14.5: a path's ref is of the node that it was of, or of the one that took that in, and not live just if that was taken out.
func TestPathsOfNodes(t *testing.T) {
	eachDone(t, 5, func(n api.Node, o api.Op, m api.Node) {
		there := ids(m)
		for id, p := range ids(n) {
			want, is := there[id]
			if o.Kind == api.MergeNode && slices.Equal(p, o.Path) {
				want, is = slices.Clone(p), true
				want[len(want)-1]--
			}
			r := ofPath(p...)
			got := hold.Step(refs(r), o)
			if is {
				wantList(t, few(p)+" by "+few(o), got, refs(ofPath(want...)))
			} else {
				wantList(t, few(p)+" by "+few(o), got, refs(gone(r)))
			}
		}
	})
}

// P14.5: step by step, as the refs of a batch go along.
func TestStepByStep(t *testing.T) {
	n := tr(`["abc"{type:p}["de"]"f"]`)
	var l []api.Ref
	for i, r := range refs(ofPath(1), ofPath(1, 0), ofPoint(api.ForwardA, pt(1, 0)), ofPoint(api.BackwardA, pt(1, 0)), ofPoint(api.NoneA, pt(1, 2)), ofRange(api.InwardA, pt(1, 0), pt(1, 1, 0)), ofRange(api.OutwardA, pt(1, 1, 0), pt(1, 0))) {
		l, _ = hold.Add(n, l, i, r)
	}
	putQ := insert(1)
	putQ.Node = tr(`{type:q}["gh"]`)
	outF := remove(4)
	outF.Node = leaf("f")
	for i, x := range []struct {
		o    api.Op
		n    string
		want []api.Ref
	}{
		{put(1, "xy", 0), `["axybc"{type:p}["de"]"f"]`, refs(ofPath(1), ofPath(1, 0), ofPoint(api.ForwardA, pt(3, 0)), ofPoint(api.BackwardA, pt(1, 0)), ofPoint(api.NoneA, pt(1, 2)), ofRange(api.InwardA, pt(3, 0), pt(1, 1, 0)), ofRange(api.OutwardA, pt(1, 1, 0), pt(1, 0)))},
		{putQ, `["axybc"{type:q}["gh"]{type:p}["de"]"f"]`, refs(ofPath(2), ofPath(2, 0), ofPoint(api.ForwardA, pt(3, 0)), ofPoint(api.BackwardA, pt(1, 0)), ofPoint(api.NoneA, pt(1, 3)), ofRange(api.InwardA, pt(3, 0), pt(1, 2, 0)), ofRange(api.OutwardA, pt(1, 2, 0), pt(1, 0)))},
		{split(1, 2, 0), `["axybc"{type:q}["gh"]{type:p}["d""e"]"f"]`, refs(ofPath(2), ofPath(2, 0), ofPoint(api.ForwardA, pt(3, 0)), ofPoint(api.BackwardA, pt(1, 0)), ofPoint(api.NoneA, pt(1, 3)), ofRange(api.InwardA, pt(3, 0), pt(1, 2, 0)), ofRange(api.OutwardA, pt(0, 2, 1), pt(1, 0)))},
		{split(3, 0), `["axy""bc"{type:q}["gh"]{type:p}["d""e"]"f"]`, refs(ofPath(3), ofPath(3, 0), ofPoint(api.ForwardA, pt(0, 1)), ofPoint(api.BackwardA, pt(1, 0)), ofPoint(api.NoneA, pt(1, 4)), ofRange(api.InwardA, pt(0, 1), pt(1, 3, 0)), ofRange(api.OutwardA, pt(0, 3, 1), pt(1, 0)))},
		{outF, `["axy""bc"{type:q}["gh"]{type:p}["d""e"]]`, refs(ofPath(3), ofPath(3, 0), ofPoint(api.ForwardA, pt(0, 1)), ofPoint(api.BackwardA, pt(1, 0)), gone(ofPoint(api.NoneA, pt(0))), ofRange(api.InwardA, pt(0, 1), pt(1, 3, 0)), ofRange(api.OutwardA, pt(0, 3, 1), pt(1, 0)))},
		{move(path(3, 0), path(0)), `["d""axy""bc"{type:q}["gh"]{type:p}["e"]]`, refs(ofPath(4), ofPath(0), ofPoint(api.ForwardA, pt(0, 2)), ofPoint(api.BackwardA, pt(1, 1)), gone(ofPoint(api.NoneA, pt(0))), ofRange(api.InwardA, pt(0, 2), pt(1, 0)), ofRange(api.OutwardA, pt(0, 4, 0), pt(1, 1)))},
		{api.Op{Kind: api.MergeNode, Path: path(4), Pos: 1, Old: []api.Prop{{K: "type", V: "p"}}}, `["d""axy""bc"{type:q}["gh""e"]]`, refs(ofPath(3), ofPath(0), ofPoint(api.ForwardA, pt(0, 2)), ofPoint(api.BackwardA, pt(1, 1)), gone(ofPoint(api.NoneA, pt(0))), ofRange(api.InwardA, pt(0, 2), pt(1, 0)), ofRange(api.OutwardA, pt(0, 3, 1), pt(1, 1)))},
		{take(0, "axy", 1), `["d""""bc"{type:q}["gh""e"]]`, refs(ofPath(3), ofPath(0), ofPoint(api.ForwardA, pt(0, 2)), ofPoint(api.BackwardA, pt(0, 1)), gone(ofPoint(api.NoneA, pt(0))), ofRange(api.InwardA, pt(0, 2), pt(1, 0)), ofRange(api.OutwardA, pt(0, 3, 1), pt(0, 1)))},
		{api.Op{Kind: api.RemoveNode, Path: path(0), Node: leaf("d")}, `["""bc"{type:q}["gh""e"]]`, refs(ofPath(2), gone(ofPath()), ofPoint(api.ForwardA, pt(0, 1)), ofPoint(api.BackwardA, pt(0, 0)), gone(ofPoint(api.NoneA, pt(0))), gone(ofRange(api.InwardA, pt(0), pt(0))), ofRange(api.OutwardA, pt(0, 2, 1), pt(0, 0)))},
	} {
		m, _, e := op.Apply(n, api.Sel{}, x.o)
		if want := tr(x.n); e != api.OK || few(m) != few(want) {
			t.Fatalf("%d: got %d, %s", i, e, few(m))
		}
		n, l = m, hold.Step(l, x.o)
		for k := range x.want {
			x.want[k].Id = k
		}
		wantList(t, few(x.o), l, x.want)
	}
}
