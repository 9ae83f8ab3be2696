package op_test

import (
	"cmp"
	"slices"
	"testing"

	"redline/api"
	"redline/back"
	"redline/node"
	"redline/point"
	"redline/xpoint"
)

// told is what the chapter's words say of an operation, sentence by sentence.
func told(n api.Node, s api.Sel, o api.Op) (api.Node, api.Sel, api.Errno) {
	behind, into := copied(n), s
	e := cmp.Or(node.Check(n), unless(!n.Leaf, api.ErrLeaf), point.CheckSel(n, s), back.Form(o))
	if e == api.OK && o.Kind == api.SetSel {
		into = o.Into
		e = cmp.Or(unless(sameSel(o.From, s), api.ErrSame), point.CheckSel(n, o.Into))
	} else if e == api.OK {
		e = do(&behind, o)
		if e == api.OK && s.Is {
			e = unless(stays(s.Anchor, o) && stays(s.Focus, o), api.ErrSel)
		}
	}
	if e != api.OK {
		return api.Node{}, none(), e
	}
	return behind, into, api.OK
}

func stays(p api.Point, o api.Op) bool {
	i, _ := back.Inverse(o)
	q, is := xpoint.Move(p, o, api.ForwardA)
	r, too := xpoint.Move(p, i, api.ForwardA)
	return is && too && samePoint(p, q) && samePoint(p, r)
}

// wantTold holds both calls against the chapter's words, and tells whether there is no error.
func wantTold(t *testing.T, n api.Node, s api.Sel, o api.Op) bool {
	t.Helper()
	want, into, e := told(n, s, o)
	if e != api.OK {
		wantWrong(t, n, s, o, e)
		return false
	}
	wantDone(t, n, s, o, want, into)
	return true
}

// near are paths of a tree's nodes, of places behind and ahead of all Kids of a node, and of some where nothing is.
func near(n api.Node) [][]int {
	var out [][]int
	visit(&n, nil, func(x *api.Node, p []int) {
		out = append(out, p)
		for _, i := range []int{-1, len(x.Kids), len(x.Kids) + 1} {
			out = append(out, slices.Concat(p, path(i)))
		}
		out = append(out, slices.Concat(p, path(len(x.Kids), 0)))
	})
	return out
}

// lists are properties that a node may be said to have, or to be given: what one has, others, and such that may not be.
func lists(n api.Node, p []int) [][]api.Prop {
	out := [][]api.Prop{nil, props("new", "1"), props("id", "99"), {{}}, props("b", "", "a", "")}
	if x := at(&n, p); x != nil && len(x.Props) > 0 {
		out = append(out, x.Props)
	}
	return out
}

// tries tells operations of all kinds but SetSel on a tree at one path, such that can be done, and others.
func tries(n api.Node, p []int) []api.Op {
	var out []api.Op
	bad := leaf("a", "A", "")
	for _, x := range []api.Node{leaf("new"), tr(`{type:p}["x"[]]`), bad, {Text: []rune("a")}} {
		out = append(out, insert(x, p...), remove(x, p...))
	}
	if x := at(&n, p); x != nil {
		out = append(out, remove(*x, p...))
	}
	for _, l := range lists(n, p) {
		for pos := -1; pos < 4; pos++ {
			out = append(out, merge(pos, l, p...), split(pos, l, p...))
		}
		for _, l2 := range lists(n, p) {
			out = append(out, set(l, l2, p...))
		}
	}
	for _, to := range near(n) {
		out = append(out, move(p, to))
	}
	for pos := -1; pos < 4; pos++ {
		for _, s := range []string{"", "A", "B", "C", "AB", "BC", "xyz"} {
			out = append(out, put(pos, s, p...), take(pos, s, p...))
		}
		out = append(out, api.Op{Kind: api.InsertText, Path: p, Pos: pos, Text: []rune{-1}}, api.Op{Kind: api.RemoveText, Path: p, Pos: pos, Text: []rune{0xd800}})
	}
	return out
}

// P12.1, P12.2: each small tree, and each small operation; with each selection, if it can be done with none, and with one, if not.
func TestByWords(t *testing.T) {
	for _, n := range smallTrees(4) {
		all := gaps(n)
		for _, p := range near(n) {
			for _, o := range tries(n, p) {
				if !wantTold(t, n, none(), o) {
					if len(all) > 0 {
						wantTold(t, n, sel(all[0], all[len(all)-1]), o)
					}
					continue
				}
				for _, a := range all {
					for _, f := range all {
						wantTold(t, n, sel(a, f), o)
					}
				}
			}
		}
	}
}

// P12.1, P12.2: fewer operations on greater trees.
func TestByWordsGreater(t *testing.T) {
	for _, n := range smallTrees(5) {
		all := gaps(n)
		for _, o := range able(n) {
			wantTold(t, n, none(), o)
			for i, p := range all {
				wantTold(t, n, sel(p, all[(i+1)%len(all)]), o)
			}
		}
	}
}

// P12.1, P12.2: each change of the selection to another one, or to what is none of the tree.
func TestByWordsSel(t *testing.T) {
	for _, n := range smallTrees(3) {
		sels := []api.Sel{none(), no(pt(1), pt(0)), no(pt(0), pt(0, 0)), {Is: true}}
		for _, a := range append(gaps(n), pt(-1, 0), pt(9, 0), pt(0, 9), pt(0)) {
			for _, f := range append(gaps(n), pt(0, 0, 0)) {
				sels = append(sels, sel(a, f))
			}
		}
		for _, s := range sels {
			for _, from := range sels {
				for _, into := range sels {
					wantTold(t, n, s, choose(from, into))
				}
			}
		}
	}
}

// P12.1: of kinds that there are none of, with whatever fields.
func TestByWordsNoKind(t *testing.T) {
	n := tr(four)
	for _, kind := range strange() {
		for _, p := range near(n) {
			for _, o := range append(tries(n, p), choose(none(), none()), choose(none(), sel(pt(0, 0), pt(1, 0)))) {
				o.Kind = kind
				wantWrong(t, n, none(), o, api.ErrArg)
			}
		}
		wantWrong(t, n, sel(pt(0, 0), pt(0, 0)), api.Op{Kind: kind}, api.ErrArg)
	}
}
