package op_test

import (
	"slices"
	"testing"

	"redline/api"
	"redline/back"
	"redline/node"
	"redline/op"
	"redline/point"
	"redline/xpath"
)

// selsOf are no selection, and all of a tree.
func selsOf(n api.Node) []api.Sel {
	out := []api.Sel{none()}
	for _, a := range gaps(n) {
		for _, f := range gaps(n) {
			out = append(out, sel(a, f))
		}
	}
	return out
}

// allDone looks at each small tree, each operation on it, and each selection with which that can be done, and what is told then.
func allDone(t *testing.T, most int, look func(x handed, n api.Node, s api.Sel)) {
	t.Helper()
	some := 0
	for _, n := range smallTrees(most) {
		sels := selsOf(n)
		for _, o := range able(n) {
			for _, s := range sels {
				if o.Kind == api.SetSel {
					o.From = s
				}
				if got, into, e := op.Apply(n, s, o); e == api.OK {
					look(handed{n, s, o}, got, into)
					some++
				} else if !s.Is || e != api.ErrSel {
					t.Fatalf("%s: got %d", what(n, s, o), e)
				}
			}
		}
	}
	if some == 0 {
		t.Fatal("nothing was done")
	}
}

// P12.3: the inverse of an operation that was done can be done, and restores tree and selection; that one's inverse does it again.
func TestUndone(t *testing.T) {
	allDone(t, 4, func(x handed, n api.Node, s api.Sel) {
		i, e := back.Inverse(x.o)
		if e != api.OK {
			t.Fatalf("%s: no inverse: %d", what(x.n, x.s, x.o), e)
		}
		wantDone(t, n, s, i, x.n, x.s)
		again, _ := back.Inverse(i)
		wantDone(t, x.n, x.s, again, n, s)
	})
}

// P12.3: so many that were done one after the other: their inverses, in reverse order, restore tree and selection.
func TestManyUndone(t *testing.T) {
	here, there := sel(pt(1, 0), pt(1, 0)), sel(pt(3, 2, 1, 1), pt(0, 0))
	l := []api.Op{
		choose(none(), here),
		insert(tr(`{type:q}["gh"]`), 1),
		split(1, props("type", "r"), 1),
		set(props("type", "r"), props("type", "p"), 2),
		merge(1, props("type", "p"), 2),
		split(1, props("bold", "2"), 1, 0),
		move(path(1), path(2, 1)),
		put(1, "xyz", 2, 1, 1),
		choose(here, there),
		take(4, "", 2, 1, 1),
		choose(there, none()),
		take(2, "yz", 2, 1, 1),
		remove(tr(`[]`), 3),
		choose(none(), here),
	}
	n, s := inOrder(t, tr(four), none(), l)
	if !sameNode(n, tr(`["ab"{bold:1}"cd"{type:p}["e"{type:q}["g"{bold:2}"hx"]"f"]]`)) || !sameSel(s, here) {
		t.Fatalf("got %s, %v", show(n), s)
	}
	inverses, _ := back.All(l)
	n, s = inOrder(t, n, s, inverses)
	if !sameNode(n, tr(four)) || !sameSel(s, none()) {
		t.Fatalf("got %s, %v", show(n), s)
	}
}

func inOrder(t *testing.T, n api.Node, s api.Sel, l []api.Op) (api.Node, api.Sel) {
	t.Helper()
	for _, o := range l {
		m, into, e := op.Apply(n, s, o)
		if e != api.OK {
			t.Fatalf("%s: got %d", what(n, s, o), e)
		}
		n, s = m, into
	}
	return n, s
}

// P12.3: behind an operation tree and selection may be, and the selection is in the tree.
func TestMayBe(t *testing.T) {
	allDone(t, 4, func(x handed, n api.Node, s api.Sel) {
		if e := node.Check(n); e != api.OK || n.Leaf {
			t.Fatalf("%s: %s may not be: %d", what(x.n, x.s, x.o), show(n), e)
		}
		if e := point.CheckSel(n, s); e != api.OK {
			t.Fatalf("%s: %v may not be: %d", what(x.n, x.s, x.o), s, e)
		}
	})
}

// P12.3: a selection that stays has the runes beside its points that it had.
func TestBeside(t *testing.T) {
	runeAt := func(n api.Node, p api.Point, at int) rune {
		x := *nodeAt(t, n, p.Path)
		if at < 0 || at >= len(x.Text) {
			return -1
		}
		return x.Text[at]
	}
	allDone(t, 4, func(x handed, n api.Node, s api.Sel) {
		if !s.Is || x.o.Kind == api.SetSel {
			return
		}
		for _, p := range []api.Point{s.Anchor, s.Focus} {
			if runeAt(n, p, p.Off-1) != runeAt(x.n, p, p.Off-1) || runeAt(n, p, p.Off) != runeAt(x.n, p, p.Off) {
				t.Fatalf("%s: other runes in %s", what(x.n, x.s, x.o), show(n))
			}
		}
	})
}

func nodeAt(t *testing.T, n api.Node, p []int) *api.Node {
	t.Helper()
	x := at(&n, p)
	if x == nil {
		t.Fatalf("%s has nothing at %v", show(n), p)
	}
	return x
}

// P12.3: each node that no operation takes out stands where xpath.Move tells; of one that was merged the one does that took it in.
func TestNodesGo(t *testing.T) {
	id := func(n *api.Node) string {
		for _, p := range n.Props {
			if p.K == "id" {
				return p.V
			}
		}
		return ""
	}
	inTrees(5, func(n, _ api.Node, o api.Op) {
		got, _, e := op.Apply(n, none(), o)
		if e != api.OK {
			t.Fatalf("%s: got %d", what(n, none(), o), e)
		}
		visit(&n, nil, func(x *api.Node, p []int) {
			out := o.Kind == api.RemoveNode && begins(p, o.Path)
			q, is := xpath.Move(p, o)
			if is == out {
				t.Fatalf("%s: of %v there is told %v, %v", what(n, none(), o), p, q, is)
			}
			if out || o.Kind == api.SetNode && slices.Equal(p, o.Path) {
				return
			}
			want := id(x)
			if o.Kind == api.MergeNode && slices.Equal(p, o.Path) {
				want = id(at(&n, beside(p, -1)))
			}
			if there := id(nodeAt(t, got, q)); there != want {
				t.Fatalf("%s: %s has gone to %v, where %s is", what(n, none(), o), want, q, there)
			}
		})
	})
}

// P12.3: of the runes none is lost or comes but those that an operation names, and their order stays, but of a MoveNode.
func TestRunesStay(t *testing.T) {
	inTrees(5, func(n, _ api.Node, o api.Op) {
		got, _, e := op.Apply(n, none(), o)
		if e != api.OK {
			t.Fatalf("%s: got %d", what(n, none(), o), e)
		}
		was, is := node.Text(n), node.Text(got)
		switch o.Kind {
		case api.InsertNode, api.InsertText:
			is = slices.DeleteFunc(is, func(c rune) bool { return c == 't' })
		case api.RemoveNode, api.RemoveText:
			out := append(node.Text(o.Node), o.Text...)
			was = slices.DeleteFunc(was, func(c rune) bool { return slices.Contains(out, c) })
		case api.MoveNode:
			slices.Sort(is)
		}
		if !slices.Equal(is, was) {
			t.Fatalf("%s: got %q, want %q", what(n, none(), o), string(is), string(was))
		}
	})
}
