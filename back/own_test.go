package back_test

import (
	"slices"
	"testing"

	"redline/api"
	"redline/back"
)

// calls are what is told of one operation, and of many.
func calls() []func([]api.Op) []api.Op {
	return []func([]api.Op) []api.Op{
		func(l []api.Op) []api.Op {
			out, _ := back.All(l)
			return out
		},
		func(l []api.Op) []api.Op {
			var out []api.Op
			for _, o := range l {
				i, _ := back.Inverse(o)
				out = append(out, i)
			}
			return out
		},
		func(l []api.Op) []api.Op {
			for _, o := range l {
				back.Form(o)
			}
			return nil
		},
	}
}

// samples are lists of operations: of each kind, of all kinds, and such that have no inverse, or no form.
func samples() [][]api.Op {
	var all, wrong []api.Op
	for _, x := range full() {
		all = append(all, x.o)
		o := x.o
		o.Kind = 0
		wrong = append(wrong, o)
	}
	merge, two := full()[2].o, full()[5].o
	merge.Path = path(1, 0)
	two.Kind = api.MergeNode
	out := [][]api.Op{nil, all, wrong, {all[0], merge}, {merge, all[0]}, {all[0], two, all[2]}, {all[8], wrong[0]}}
	for i := range all {
		out = append(out, all[i:i+1])
	}
	return out
}

// R2: what is handed in stays as it is, also in the room behind its lists, with an error, too; it stays when what was told is written into.
func TestKept(t *testing.T) {
	for _, l := range samples() {
		for _, call := range calls() {
			in := roomy(l)
			was := whole(in)
			got := call(in)
			if whole(in) != was {
				t.Fatalf("%s: what was handed in is changed", showAll(l))
			}
			spoilLists(&got)
			if whole(in) != was {
				t.Fatalf("%s: it hangs on what was told", showAll(l))
			}
		}
	}
}

// R2: what was told stays when what was handed in is written into, and when it is told again.
func TestStays(t *testing.T) {
	for _, l := range samples() {
		for _, call := range calls() {
			in := roomy(l)
			got := call(in)
			was := whole(got)
			again := call(in)
			if showAll(again) != showAll(got) {
				t.Fatalf("%s: another answer", showAll(l))
			}
			spoilLists(&again)
			spoilLists(&in)
			if whole(got) != was {
				t.Fatalf("%s: what was told hangs on what was handed in", showAll(l))
			}
		}
	}
}

// R2: no two lists that are told share anything, nor with what was handed in, also where that has one list, or one node, in several places.
func TestShares(t *testing.T) {
	p, a, s := path(1, 2), props("a", "1"), sel(pt(2, 1), pt(3, 4))
	s.Focus.Path = s.Anchor.Path
	n := elem(a, leaf("ab"), leaf("ab"))
	n.Kids[1] = n.Kids[0]
	twice := []api.Op{
		{Kind: api.MoveNode, Path: p, To: p},
		{Kind: api.SetNode, Path: p, Old: a, New: a},
		{Kind: api.SetSel, From: s, Into: s},
		{Kind: api.InsertNode, Path: p, Node: n},
		{Kind: api.SplitNode, Path: p, New: a},
		{Kind: api.InsertText, Path: p, Text: n.Kids[0].Text},
	}
	for _, l := range append(samples(), twice, slices.Concat(twice, twice)) {
		for _, call := range calls()[:2] {
			got := call(l)
			seen := map[any]bool{}
			for _, at := range spots(l) {
				seen[at] = true
			}
			for _, at := range spots(got) {
				if seen[at] {
					t.Fatalf("%s: what is told shares something", showAll(l))
				}
				seen[at] = true
			}
		}
	}
}
