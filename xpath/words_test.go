package xpath_test

import (
	"slices"
	"testing"

	"redline/api"
	"redline/xpath"
)

// told is what the chapter's words say, held against no other package's calls. It asks for nothing that may not be.
func told(p []int, o api.Op) ([]int, bool) {
	q := o.Path
	if len(q) == 0 {
		return p, true
	}
	last := len(q) - 1
	same := slices.Equal(q, p)
	above := len(p) > len(q) && slices.Equal(q, p[:len(q)])
	left := len(p) > last && slices.Equal(q[:last], p[:last]) && q[last] < p[last]
	switch o.Kind {
	case api.InsertNode:
		if same || above || left {
			return with(p, last, p[last]+1), true
		}
	case api.RemoveNode:
		if same || above {
			return nil, false
		}
		if left {
			return with(p, last, p[last]-1), true
		}
	case api.MergeNode:
		if q[last] == 0 {
			return nil, false
		}
		if same || left {
			return with(p, last, p[last]-1), true
		}
		if above {
			return with(with(p, last, p[last]-1), len(q), p[len(q)]+o.Pos), true
		}
	case api.SplitNode:
		if left {
			return with(p, last, p[last]+1), true
		}
		if above && p[len(q)] >= o.Pos {
			return with(with(p, last, p[last]+1), len(q), p[len(q)]-o.Pos), true
		}
	case api.MoveNode:
		if same || above {
			return slices.Concat(o.To, p[len(q):]), true
		}
		rest, _ := told(p, remove(q...))
		return told(rest, insert(o.To...))
	}
	return p, true
}

// P8.1: each path by each operation, of few numbers.
func TestByWords(t *testing.T) {
	all := places(3, 2)
	for _, p := range all {
		for _, q := range all {
			for _, kind := range []int{api.InsertNode, api.RemoveNode, api.MergeNode, api.SplitNode, api.SetNode} {
				for pos := range 4 {
					o := api.Op{Kind: kind, Path: q, Pos: pos}
					want, is := told(p, o)
					wantMoves(t, []one{{o, p, want, is}})
				}
			}
			for _, to := range all {
				want, is := told(p, move(q, to))
				wantMoves(t, []one{{move(q, to), p, want, is}})
			}
		}
	}
}

// P8.1, R2: what is handed in stays as it is, also in the room behind its lists, and what is told shares nothing with it, also where the path stays.
func TestShares(t *testing.T) {
	for _, kind := range []int{0, api.InsertNode, api.RemoveNode, api.MergeNode, api.SplitNode, api.MoveNode, api.SetNode, api.SetSel} {
		for _, p := range places(2, 2) {
			for _, q := range places(2, 2) {
				for _, to := range [][]int{nil, path(0), path(1), path(0, 1), p, q} {
					wantOwn(t, p, api.Op{Kind: kind, Path: q, To: to, Pos: 1})
				}
			}
		}
	}
	wantOwn(t, path(-1), insert(1))
	wantOwn(t, path(1, 2, 3), insert(1, -1))
	wantOwn(t, path(1), move(path(1), path(-1)))
	wantOwn(t, path(1, 2, 3), insert(1))
	wantOwn(t, path(1, 2, 3, 4), move(path(1, 2), path(5, 6)))
}

func wantOwn(t *testing.T, p []int, o api.Op) {
	t.Helper()
	p, o = withRoom(p, 88), roomy(o)
	wasP, wasO := showPath(p), show(o)
	got, is := xpath.Move(p, o)
	want := slices.Clone(got)
	if showPath(p) != wasP || show(o) != wasO {
		t.Fatalf("%s: what was handed in is changed", what(p, o))
	}
	again, _ := xpath.Move(p, o)
	spoil(got)
	if showPath(p) != wasP || show(o) != wasO || !slices.Equal(again, want) {
		t.Fatalf("%s: what is told shares something", what(p, o))
	}
	spoil(p)
	spoil(o.Path)
	spoil(o.To)
	if !slices.Equal(again, want) || !is && got != nil {
		t.Fatalf("kind %d: what is told hangs on what was handed in", o.Kind)
	}
}
