package op_test

import (
	"slices"
	"testing"

	"redline/api"
)

// stand is one case: an operation, points that stay where they are by it, and such that would move.
type stand struct {
	n              string
	o              api.Op
	stays, goesOff []api.Point
}

// wantStands looks of each point, as Anchor and as Focus, beside one that stays and alone, whether the operation may be done with it.
func wantStands(t *testing.T, all []stand) {
	t.Helper()
	for _, x := range all {
		n, want := tr(x.n), doneBy(tr(x.n), x.o)
		for _, a := range x.stays {
			for _, b := range x.stays {
				wantDone(t, n, sel(a, b), x.o, want, sel(a, b))
			}
		}
		for _, p := range x.goesOff {
			for _, q := range slices.Concat(x.stays, x.goesOff) {
				wantWrong(t, n, sel(p, q), x.o, api.ErrSel)
				wantWrong(t, n, sel(q, p), x.o, api.ErrSel)
			}
		}
		wantDone(t, n, none(), x.o, want, none())
	}
}

// P12.1, P12.2: a text that is put in, or taken out, ahead of a point would move it, or just where it stands: by the operation, or by the inverse. What is behind it would not, nor what is in another leaf, nor no text at all.
func TestSelByText(t *testing.T) {
	of := func(off int) []api.Point {
		out := []api.Point{pt(0, 0), pt(1, 0), pt(0, 2, 0)}
		for i := range off {
			out = append(out, pt(i, 1))
		}
		return out
	}
	from := func(off int) []api.Point {
		var out []api.Point
		for i := off; i < 5; i++ {
			out = append(out, pt(i, 1))
		}
		return out
	}
	const n = `["a""bcde"["f"]]`
	wantStands(t, []stand{
		{n, put(0, "x", 1), of(0), from(0)},
		{n, put(2, "xy", 1), of(2), from(2)},
		{n, put(4, "x", 1), of(4), from(4)},
		{n, put(0, "", 1), of(5), nil},
		{n, put(2, "", 1), of(5), nil},
		{n, put(4, "", 1), of(5), nil},
		{n, take(0, "bc", 1), of(0), from(0)},
		{n, take(0, "bcde", 1), of(0), from(0)},
		{n, take(1, "cd", 1), of(1), from(1)},
		{n, take(3, "e", 1), of(3), from(3)},
		{n, take(0, "", 1), of(5), nil},
		{n, take(2, "", 1), of(5), nil},
		{n, take(4, "", 1), of(5), nil},
		{n, put(0, "x", 2, 0), of(5)[:2], []api.Point{pt(0, 2, 0), pt(1, 2, 0)}},
		{`[""]`, put(0, "x", 0), nil, []api.Point{pt(0, 0)}},
		{`[""]`, put(0, "", 0), []api.Point{pt(0, 0)}, nil},
		{`["a"]`, take(0, "a", 0), nil, []api.Point{pt(0, 0), pt(1, 0)}},
	})
}

// P12.1, P12.2: a node that is put in, or taken out, ahead of a point's leaf, or of an element above it, would move it; so would its own being taken out.
func TestSelByNodes(t *testing.T) {
	const n = `["a"["b"["c"]"d"]"e"]`
	a, b, c, d, e := pt(1, 0), pt(0, 1, 0), pt(1, 1, 1, 0), pt(0, 1, 2), pt(1, 2)
	l := func(p ...api.Point) []api.Point { return p }
	wantStands(t, []stand{
		{n, insert(leaf("x"), 0), nil, l(a, b, c, d, e)},
		{n, insert(leaf("x"), 1), l(a), l(b, c, d, e)},
		{n, insert(leaf("x"), 2), l(a, b, c, d), l(e)},
		{n, insert(leaf("x"), 3), l(a, b, c, d, e), nil},
		{n, insert(elem(), 1, 0), l(a, e), l(b, c, d)},
		{n, insert(elem(), 1, 1), l(a, b, e), l(c, d)},
		{n, insert(elem(), 1, 2), l(a, b, c, e), l(d)},
		{n, insert(elem(), 1, 3), l(a, b, c, d, e), nil},
		{n, insert(elem(), 1, 1, 0), l(a, b, d, e), l(c)},
		{n, insert(elem(), 1, 1, 1), l(a, b, c, d, e), nil},
		{n, remove(leaf("a"), 0), nil, l(a, b, c, d, e)},
		{n, remove(tr(`["b"["c"]"d"]`), 1), l(a), l(b, c, d, e)},
		{n, remove(leaf("e"), 2), l(a, b, c, d), l(e)},
		{n, remove(leaf("b"), 1, 0), l(a, e), l(b, c, d)},
		{n, remove(tr(`["c"]`), 1, 1), l(a, b, e), l(c, d)},
		{n, remove(leaf("d"), 1, 2), l(a, b, c, e), l(d)},
		{n, remove(leaf("c"), 1, 1, 0), l(a, b, d, e), l(c)},
		{`["a"[]"b"]`, remove(elem(), 1), l(pt(0, 0), pt(1, 0)), l(pt(0, 2), pt(1, 2))},
	})
}

// P12.1, P12.2: where leaves are merged, what stands in the one at Path would move, and what is behind it; in the one ahead only what stands at its end, which the inverse would move.
func TestSelByMerge(t *testing.T) {
	l := func(p ...api.Point) []api.Point { return p }
	wantStands(t, []stand{
		{`["x""ab""cd""y"]`, merge(2, nil, 2), l(pt(0, 0), pt(1, 0), pt(0, 1), pt(1, 1)), l(pt(2, 1), pt(0, 2), pt(1, 2), pt(2, 2), pt(0, 3), pt(1, 3))},
		{`["x""""cd""y"]`, merge(0, nil, 2), l(pt(0, 0), pt(1, 0)), l(pt(0, 1), pt(0, 2), pt(2, 2), pt(0, 3))},
		{`["ab"""["y"]]`, merge(2, nil, 1), l(pt(0, 0), pt(1, 0)), l(pt(2, 0), pt(0, 1), pt(0, 2, 0), pt(1, 2, 0))},
		{`[["ab""c"]"y"]`, merge(2, nil, 0, 1), l(pt(0, 0, 0), pt(1, 0, 0), pt(0, 1), pt(1, 1)), l(pt(2, 0, 0), pt(0, 0, 1), pt(1, 0, 1))},
		// Of elements all in the one ahead stays, also what stands at its end.
		{`["x"["a"]["b"]"y"]`, merge(1, nil, 2), l(pt(1, 0), pt(0, 1, 0), pt(1, 1, 0)), l(pt(0, 2, 0), pt(1, 2, 0), pt(0, 3), pt(1, 3))},
		{`["x"[]["b"]"y"]`, merge(0, nil, 2), l(pt(1, 0)), l(pt(0, 2, 0), pt(1, 2, 0), pt(0, 3))},
		{`["x"["a"][]"y"]`, merge(1, nil, 2), l(pt(1, 0), pt(0, 1, 0), pt(1, 1, 0)), l(pt(0, 3))},
		{`[["x"["a"]["b"]]"y"]`, merge(1, nil, 0, 2), l(pt(1, 0, 0), pt(1, 0, 1, 0), pt(0, 1), pt(1, 1)), l(pt(0, 0, 2, 0))},
	})
}

// P12.1, P12.2: where a leaf is split, what stands at Pos, or behind it, would move, and what is in the nodes behind; of an element what is in its Kids from Pos on.
func TestSelBySplit(t *testing.T) {
	l := func(p ...api.Point) []api.Point { return p }
	wantStands(t, []stand{
		{`["x""abc""y"]`, split(1, nil, 1), l(pt(0, 0), pt(1, 0), pt(0, 1)), l(pt(1, 1), pt(2, 1), pt(3, 1), pt(0, 2), pt(1, 2))},
		{`["x""abc""y"]`, split(0, nil, 1), l(pt(0, 0), pt(1, 0)), l(pt(0, 1), pt(1, 1), pt(3, 1), pt(0, 2))},
		{`["x""abc""y"]`, split(3, nil, 1), l(pt(0, 0), pt(1, 0), pt(0, 1), pt(2, 1)), l(pt(3, 1), pt(0, 2))},
		{`["x"["a""b"]"y"]`, split(1, nil, 1), l(pt(1, 0), pt(0, 1, 0), pt(1, 1, 0)), l(pt(0, 1, 1), pt(1, 1, 1), pt(0, 2))},
		{`["x"["a""b"]"y"]`, split(0, nil, 1), l(pt(1, 0)), l(pt(0, 1, 0), pt(1, 1, 1), pt(0, 2))},
		{`["x"["a""b"]"y"]`, split(2, nil, 1), l(pt(1, 0), pt(0, 1, 0), pt(1, 1, 1)), l(pt(0, 2), pt(1, 2))},
		{`["x"["a"["b"]]"y"]`, split(1, nil, 1, 0), l(pt(1, 0), pt(0, 1, 0), pt(0, 2), pt(1, 2)), l(pt(1, 1, 0), pt(0, 1, 1, 0))},
		{`["x"[]"y"]`, split(0, nil, 1), l(pt(1, 0)), l(pt(0, 2), pt(1, 2))},
	})
}

// P12.1, P12.2: a node's being moved would move what is in it, and what it goes past; not what is elsewhere, nor anything, if it goes to where it stood.
func TestSelByMove(t *testing.T) {
	const n = `["a""b"["c""d"]"e"]`
	a, b, c, d, e := pt(1, 0), pt(0, 1), pt(1, 2, 0), pt(0, 2, 1), pt(1, 3)
	l := func(p ...api.Point) []api.Point { return p }
	wantStands(t, []stand{
		{n, move(path(0), path(0)), l(a, b, c, d, e), nil},
		{n, move(path(2), path(2)), l(a, b, c, d, e), nil},
		{n, move(path(2, 1), path(2, 1)), l(a, b, c, d, e), nil},
		{n, move(path(0), path(1)), l(c, d, e), l(a, b)},
		{n, move(path(1), path(0)), l(c, d, e), l(a, b)},
		{n, move(path(0), path(3)), nil, l(a, b, c, d, e)},
		{n, move(path(1), path(2)), l(a, e), l(b, c, d)},
		{n, move(path(2), path(1)), l(a, e), l(b, c, d)},
		{n, move(path(2, 0), path(2, 1)), l(a, b, e), l(c, d)},
		{n, move(path(2, 1), path(4)), l(a, b, c, e), l(d)},
		{n, move(path(2, 1), path(3)), l(a, b, c), l(d, e)},
		{n, move(path(2, 0), path(4)), l(a, b, e), l(c, d)},
		{n, move(path(3), path(2, 2)), l(a, b, c, d), l(e)},
		{n, move(path(3), path(2, 1)), l(a, b, c), l(d, e)},
		{n, move(path(1), path(1, 2)), l(a), l(b, c, d, e)},
	})
}

// P12.1, P12.2: what changes properties moves no point.
func TestSelBySet(t *testing.T) {
	n := `["a"{type:p}["b"]]`
	all := []api.Point{pt(0, 0), pt(1, 0), pt(0, 1, 0), pt(1, 1, 0)}
	wantStands(t, []stand{
		{n, set(nil, props("bold", "1"), 0), all, nil},
		{n, set(props("type", "p"), nil, 1), all, nil},
		{n, set(nil, nil, 1, 0), all, nil},
	})
}

// P12.1: a selection that may not be, or is not in the tree, is told ahead of all that is wrong with the operation.
func TestSelWrong(t *testing.T) {
	good := pt(1, 0)
	ops := []api.Op{{}, {Kind: 10}, {Kind: api.SetSel, Pos: 1}, insert(leaf("x"), 4), insert(leaf("x"), 0), remove(leaf("z"), 0), merge(9, nil, 1), split(9, nil, 1), move(path(0), path(9)), set(nil, nil, 0), put(0, "x", 0), take(0, "x", 0), choose(none(), none())}
	for e, all := range map[api.Errno][]api.Point{
		api.ErrPath: {pt(0, 4), pt(0, 0, 0), pt(9, -1), pt(0, 2, 2), pt(-1, 2, 0, 0)},
		api.ErrLeaf: {pt(0), pt(0, 2), pt(9, 3), pt(-1)},
		api.ErrPos:  {pt(3, 0), pt(-1, 0), pt(2, 2, 1), pt(-1, 2, 0)},
	} {
		for _, p := range all {
			for _, o := range ops {
				wantWrong(t, tr(four), sel(p, good), o, e)
				wantWrong(t, tr(four), sel(good, p), o, e)
				wantWrong(t, tr(four), no(p, pt(1)), o, api.ErrArg)
				wantWrong(t, tr(four), no(pt(0, 0), p), o, api.ErrArg)
			}
		}
	}
	for _, o := range ops {
		wantWrong(t, tr(four), sel(pt(0, 2), pt(0, 9)), o, api.ErrLeaf)
		wantWrong(t, tr(four), sel(pt(0, 9), pt(0, 2)), o, api.ErrPath)
		wantWrong(t, tr(`[]`), api.Sel{Is: true}, o, api.ErrLeaf)
	}
	for _, i := range odd() {
		for _, o := range ops {
			wantWrong(t, tr(four), sel(pt(i, 0), good), o, api.ErrPos)
			wantWrong(t, tr(four), sel(good, pt(0, i)), o, api.ErrPath)
			wantWrong(t, tr(four), no(pt(i), pt(0)), o, api.ErrArg)
		}
	}
}

// moved tells whether a point would move by an operation that can be done on n, or by the inverse: it is worked out from how the paths stand, but of a MoveNode from which node stands where.
func moved(n, behind api.Node, p api.Point, o api.Op) bool {
	q := o.Path
	switch o.Kind {
	case api.InsertNode, api.RemoveNode:
		return fromOn(q, p.Path)
	case api.MergeNode:
		return fromOn(q, p.Path) || slices.Equal(beside(q, -1), p.Path) && p.Off == o.Pos
	case api.SplitNode:
		if slices.Equal(q, p.Path) {
			return p.Off >= o.Pos
		}
		if begins(p.Path, q) {
			return p.Path[len(q)] >= o.Pos
		}
		return fromOn(q, p.Path)
	case api.MoveNode:
		there := at(&behind, p.Path)
		return there == nil || !sameNode(*there, *at(&n, p.Path))
	case api.InsertText, api.RemoveText:
		return slices.Equal(q, p.Path) && o.Pos <= p.Off && len(o.Text) > 0
	}
	return false
}

// fromOn tells whether a path is q, below it, or from a path on that stands behind q under the same parent.
func fromOn(q, p []int) bool {
	last := len(q) - 1
	return len(p) > last && slices.Equal(p[:last], q[:last]) && p[last] >= q[last]
}

func begins(p, q []int) bool { return len(p) >= len(q) && slices.Equal(p[:len(q)], q) }

// P12.1, P12.2: in each small tree, by each operation that can be done on it, each selection stays just if neither of its points would move.
func TestSelInSmallTrees(t *testing.T) {
	inTrees(4, func(n, behind api.Node, o api.Op) {
		all := gaps(n)
		for _, a := range all {
			for _, f := range all {
				s := sel(a, f)
				if o.Kind == api.SetSel || moved(n, behind, a, o) || moved(n, behind, f, o) {
					continue
				}
				wantDone(t, n, s, o, behind, s)
			}
		}
		for _, a := range all {
			if o.Kind == api.SetSel || !moved(n, behind, a, o) {
				continue
			}
			for _, f := range all {
				wantWrong(t, n, sel(a, f), o, api.ErrSel)
				wantWrong(t, n, sel(f, a), o, api.ErrSel)
			}
		}
	})
}
