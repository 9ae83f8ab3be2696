package xpath_test

import (
	"testing"

	"redline/api"
)

// P8.1: an InsertNode moves its own path, those below it, and those that it is left of.
func TestInsert(t *testing.T) {
	wantMoves(t, []one{
		// At q, and below it.
		{insert(0), path(0), path(1), true},
		{insert(3), path(3), path(4), true},
		{insert(0, 1), path(0, 1), path(0, 2), true},
		{insert(0, 1), path(0, 1, 5), path(0, 2, 5), true},
		{insert(4, 0, 2), path(4, 0, 2, 0, 7), path(4, 0, 3, 0, 7), true},
		{insert(2), path(2, 2, 2), path(3, 2, 2), true},
		// Above it: the root, too.
		{insert(0), nil, nil, true},
		{insert(0, 1), nil, nil, true},
		{insert(0, 1), path(0), path(0), true},
		{insert(0, 0, 0), path(0, 0), path(0, 0), true},
		// To the right of it, at its level and below.
		{insert(0), path(1), path(2), true},
		{insert(0), path(5, 0), path(6, 0), true},
		{insert(0, 1), path(0, 2), path(0, 3), true},
		{insert(0, 1), path(0, 9, 1, 1), path(0, 10, 1, 1), true},
		// To the left of it.
		{insert(1), path(0), path(0), true},
		{insert(1), path(0, 5), path(0, 5), true},
		{insert(0, 2), path(0, 1), path(0, 1), true},
		{insert(0, 2), path(0, 1, 9), path(0, 1, 9), true},
		// On another branch.
		{insert(0, 1), path(1), path(1), true},
		{insert(0, 1), path(1, 1), path(1, 1), true},
		{insert(0, 1), path(1, 2, 3), path(1, 2, 3), true},
		{insert(1, 0), path(0, 5), path(0, 5), true},
		{insert(1, 0, 0), path(1, 1, 0), path(1, 1, 0), true},
	})
}

// P8.1: a RemoveNode takes its own path away, and those below it, and moves those that it is left of.
func TestRemove(t *testing.T) {
	wantMoves(t, []one{
		// At q, and below it.
		{remove(0), path(0), nil, false},
		{remove(3), path(3), nil, false},
		{remove(0, 1), path(0, 1), nil, false},
		{remove(0, 1), path(0, 1, 5), nil, false},
		{remove(4, 0, 2), path(4, 0, 2, 0, 7), nil, false},
		// Above it.
		{remove(0), nil, nil, true},
		{remove(0, 1), nil, nil, true},
		{remove(0, 1), path(0), path(0), true},
		{remove(0, 0, 0), path(0, 0), path(0, 0), true},
		// To the right of it.
		{remove(0), path(1), path(0), true},
		{remove(0), path(5, 0), path(4, 0), true},
		{remove(0, 1), path(0, 2), path(0, 1), true},
		{remove(0, 1), path(0, 9, 1, 1), path(0, 8, 1, 1), true},
		// To the left of it.
		{remove(1), path(0), path(0), true},
		{remove(1), path(0, 5), path(0, 5), true},
		{remove(0, 2), path(0, 1), path(0, 1), true},
		{remove(0, 2), path(0, 1, 9), path(0, 1, 9), true},
		// On another branch.
		{remove(0, 1), path(1), path(1), true},
		{remove(0, 1), path(1, 1), path(1, 1), true},
		{remove(0, 1), path(1, 2, 3), path(1, 2, 3), true},
		{remove(1, 0), path(0, 5), path(0, 5), true},
		{remove(1, 0, 0), path(1, 1, 0), path(1, 1, 0), true},
	})
}

// P8.1: a MergeNode moves its own path to the one ahead, those below it behind what that has, and those that it is left of.
func TestMerge(t *testing.T) {
	wantMoves(t, []one{
		// At q: Pos is nothing to it.
		{merge(0, 1), path(1), path(0), true},
		{merge(4, 1), path(1), path(0), true},
		{merge(4, 0, 1), path(0, 1), path(0, 0), true},
		{merge(api.MaxCap, 2, 5), path(2, 5), path(2, 4), true},
		// Below it.
		{merge(0, 1), path(1, 3), path(0, 3), true},
		{merge(4, 1), path(1, 0), path(0, 4), true},
		{merge(4, 0, 1), path(0, 1, 2, 7), path(0, 0, 6, 7), true},
		{merge(1, 3, 2), path(3, 2, 5, 5, 5), path(3, 1, 6, 5, 5), true},
		{merge(api.MaxCap, 1), path(1, api.MaxCap), path(0, 2*api.MaxCap), true},
		// Above it.
		{merge(4, 1), nil, nil, true},
		{merge(4, 0, 1), nil, nil, true},
		{merge(4, 0, 1), path(0), path(0), true},
		{merge(4, 1, 1, 1), path(1, 1), path(1, 1), true},
		// To the right of it: Pos is nothing to it.
		{merge(4, 1), path(2), path(1), true},
		{merge(4, 0, 1), path(0, 3, 2), path(0, 2, 2), true},
		{merge(4, 0, 1), path(0, 2, 2, 2), path(0, 1, 2, 2), true},
		// To the left of it, also in the one that takes it in.
		{merge(4, 1), path(0), path(0), true},
		{merge(4, 0, 1), path(0, 0, 2), path(0, 0, 2), true},
		{merge(4, 0, 3), path(0, 1, 2), path(0, 1, 2), true},
		// On another branch.
		{merge(4, 0, 1), path(1), path(1), true},
		{merge(4, 0, 1), path(1, 1, 3), path(1, 1, 3), true},
		{merge(4, 1, 1), path(0, 5), path(0, 5), true},
		{merge(4, 1, 1, 1), path(1, 2, 1), path(1, 2, 1), true},
	})
}

// P8.1: nothing is told of a MergeNode at a first child, whatever path is asked for.
func TestMergeFirst(t *testing.T) {
	for _, q := range [][]int{path(0), path(0, 0), path(1, 0), path(1, 2, 0)} {
		for _, p := range places(3, 2) {
			wantNothing(t, p, merge(0, q...))
			wantNothing(t, p, merge(4, q...))
		}
	}
	// Not the first number decides, but the last one.
	wantMoves(t, []one{{merge(0, 0, 0, 1), path(0, 0, 1), path(0, 0, 0), true}})
}

// P8.1: a SplitNode moves those below its path from Pos on, and those that it is left of, not its path.
func TestSplit(t *testing.T) {
	wantMoves(t, []one{
		// At q.
		{split(0, 1), path(1), path(1), true},
		{split(2, 0, 1), path(0, 1), path(0, 1), true},
		{split(api.MaxCap, 0, 1), path(0, 1), path(0, 1), true},
		// Below it: Pos is the number behind q, one less, one more, 0, and the greatest one.
		{split(2, 0, 1), path(0, 1, 2), path(0, 2, 0), true},
		{split(1, 0, 1), path(0, 1, 2), path(0, 2, 1), true},
		{split(3, 0, 1), path(0, 1, 2), path(0, 1, 2), true},
		{split(0, 0, 1), path(0, 1, 2), path(0, 2, 2), true},
		{split(0, 0, 1), path(0, 1, 0), path(0, 2, 0), true},
		{split(1, 0, 1), path(0, 1, 0), path(0, 1, 0), true},
		{split(api.MaxCap, 0, 1), path(0, 1, 2), path(0, 1, 2), true},
		{split(api.MaxCap, 0, 1), path(0, 1, api.MaxCap-1), path(0, 1, api.MaxCap-1), true},
		{split(api.MaxCap, 0, 1), path(0, 1, api.MaxCap), path(0, 2, 0), true},
		// Further below it: the number behind q alone decides.
		{split(2, 0, 1), path(0, 1, 5, 3), path(0, 2, 3, 3), true},
		{split(2, 0, 1), path(0, 1, 2, 0, 0), path(0, 2, 0, 0, 0), true},
		{split(2, 0, 1), path(0, 1, 1, 9), path(0, 1, 1, 9), true},
		{split(3, 4), path(4, 3, 3), path(5, 0, 3), true},
		// Above it.
		{split(0, 1), nil, nil, true},
		{split(0, 0, 1), nil, nil, true},
		{split(0, 0, 1), path(0), path(0), true},
		{split(0, 1, 1, 1), path(1, 1), path(1, 1), true},
		// To the right of it: Pos is nothing to it.
		{split(0, 1), path(2), path(3), true},
		{split(2, 0, 1), path(0, 2, 5), path(0, 3, 5), true},
		{split(2, 0, 1), path(0, 4, 0, 5), path(0, 5, 0, 5), true},
		{split(api.MaxCap, 0, 1), path(0, 2, 5), path(0, 3, 5), true},
		// To the left of it.
		{split(0, 1), path(0), path(0), true},
		{split(0, 0, 1), path(0, 0, 5), path(0, 0, 5), true},
		// On another branch.
		{split(0, 0, 1), path(1), path(1), true},
		{split(0, 0, 1), path(1, 1, 3), path(1, 1, 3), true},
		{split(0, 1, 1), path(0, 5), path(0, 5), true},
		{split(0, 1, 1, 1), path(1, 2, 1), path(1, 2, 1), true},
	})
}

// P8.1: a MoveNode takes its path, and those below it, to To; the others go as if it were taken out, and put in there.
func TestMoveNode(t *testing.T) {
	wantMoves(t, []one{
		// At q, and below it.
		{move(path(0), path(2)), path(0), path(2), true},
		{move(path(0, 1), path(3)), path(0, 1), path(3), true},
		{move(path(0, 1), path(3)), path(0, 1, 5), path(3, 5), true},
		{move(path(3), path(0, 1, 2)), path(3, 4, 5), path(0, 1, 2, 4, 5), true},
		{move(path(0, 1, 2), path(0, 1)), path(0, 1, 2, 3), path(0, 1, 3), true},
		// To its own path: each stays.
		{move(path(0, 1), path(0, 1)), path(0, 1), path(0, 1), true},
		{move(path(0, 1), path(0, 1)), path(0, 1, 5), path(0, 1, 5), true},
		{move(path(0, 1), path(0, 1)), path(0, 2, 5), path(0, 2, 5), true},
		{move(path(0, 1), path(0, 1)), path(0, 0), path(0, 0), true},
		{move(path(0, 1), path(0, 1)), path(0), path(0), true},
		// To the right, beside it: what lies between goes one back.
		{move(path(0, 1), path(0, 3)), path(0, 0), path(0, 0), true},
		{move(path(0, 1), path(0, 3)), path(0, 2), path(0, 1), true},
		{move(path(0, 1), path(0, 3)), path(0, 3, 7), path(0, 2, 7), true},
		{move(path(0, 1), path(0, 3)), path(0, 4), path(0, 4), true},
		{move(path(0, 1), path(0, 2)), path(0, 3), path(0, 3), true},
		{move(path(0, 1), path(0, 2)), path(0, 2), path(0, 1), true},
		// To the left, beside it: what lies between goes one on.
		{move(path(0, 3), path(0, 1)), path(0, 0), path(0, 0), true},
		{move(path(0, 3), path(0, 1)), path(0, 1), path(0, 2), true},
		{move(path(0, 3), path(0, 1)), path(0, 2, 7), path(0, 3, 7), true},
		{move(path(0, 3), path(0, 1)), path(0, 4), path(0, 4), true},
		{move(path(0, 1), path(0, 0)), path(0, 0), path(0, 1), true},
		// To a path above it.
		{move(path(0, 1), path(0)), path(0, 1, 2), path(0, 2), true},
		{move(path(0, 1), path(0)), path(0), path(1), true},
		{move(path(0, 1), path(0)), path(0, 0), path(1, 0), true},
		{move(path(0, 1), path(0)), path(0, 2), path(1, 1), true},
		{move(path(0, 1), path(0)), path(1), path(2), true},
		{move(path(0, 1, 2), path(0)), path(0, 1, 3), path(1, 1, 2), true},
		// To a path below it: that is below what stands there when it is taken out.
		{move(path(0), path(0, 1)), path(0), path(0, 1), true},
		{move(path(0), path(0, 1)), path(0, 5), path(0, 1, 5), true},
		{move(path(0), path(0, 1)), path(1), path(0), true},
		{move(path(0), path(0, 1)), path(1, 0), path(0, 0), true},
		{move(path(0), path(0, 1)), path(1, 1), path(0, 2), true},
		{move(path(0), path(0, 1)), path(2), path(1), true},
		// To another branch, on the right and on the left of it.
		{move(path(0, 1), path(3)), path(0, 2), path(0, 1), true},
		{move(path(0, 1), path(3)), path(3, 0), path(4, 0), true},
		{move(path(0, 1), path(3)), path(2, 0), path(2, 0), true},
		{move(path(0), path(1, 1)), path(2, 1), path(1, 2), true},
		{move(path(0), path(1, 1)), path(1, 1), path(0, 1), true},
		{move(path(0), path(1, 1)), path(2, 0), path(1, 0), true},
		{move(path(2), path(0, 0)), path(0, 0, 3), path(0, 1, 3), true},
		{move(path(2), path(0, 0)), path(3), path(2), true},
		// The root stays; others on branches that have nothing to do with it, too.
		{move(path(0, 1), path(3)), nil, nil, true},
		{move(path(1, 0), path(1, 2)), path(0, 1), path(0, 1), true},
		{move(path(1, 0), path(1, 2)), path(2, 1), path(2, 1), true},
		{move(path(1, 0), path(1, 2)), path(1), path(1), true},
		// To an empty path: nothing moves as if put in there.
		{move(path(0), nil), path(0), nil, true},
		{move(path(0), path()), path(0, 5, 6), path(5, 6), true},
		{move(path(0, 1), nil), path(0, 1, 5), path(5), true},
		{move(path(0, 1), nil), path(0, 2, 5), path(0, 1, 5), true},
		{move(path(0, 1), nil), path(0, 0), path(0, 0), true},
		{move(path(0, 1), nil), path(1), path(1), true},
		{move(path(0, 1), nil), nil, nil, true},
	})
}

// P8.1: a MoveNode has nothing to do with Pos, only a MoveNode with To, a Pos only with merges and splits.
func TestWhatIsLookedAt(t *testing.T) {
	for _, p := range places(3, 2) {
		for _, o := range []api.Op{insert(0, 1), remove(0, 1), move(path(0, 1), path(1)), {Kind: api.SetNode, Path: path(0, 1)}} {
			want, is := told(p, o)
			for _, pos := range []int{0, 1, 2, api.MaxCap} {
				o.Pos = pos
				wantMoves(t, []one{{o, p, want, is}})
			}
		}
		for _, o := range []api.Op{insert(0, 1), remove(0, 1), merge(1, 0, 1), split(1, 0, 1), {Kind: api.SetNode, Path: path(0, 1)}} {
			want, is := told(p, o)
			for _, to := range [][]int{nil, path(0), path(0, 1), path(0, 1, 1), path(1), path(api.MaxCap)} {
				o.To = to
				wantMoves(t, []one{{o, p, want, is}})
			}
		}
	}
}

// P8.1: whatever the kind, with an empty path of the operation each path stays.
func TestAtRoot(t *testing.T) {
	for _, kind := range kinds() {
		for _, q := range [][]int{nil, path(), path(1, 2)[:0]} {
			for _, p := range places(3, 2) {
				for _, to := range [][]int{nil, path(0), path(1, 0), p} {
					for _, pos := range []int{0, 1, api.MaxCap} {
						wantMoves(t, []one{{api.Op{Kind: kind, Path: q, To: to, Pos: pos}, p, p, true}})
					}
				}
			}
		}
	}
}

// P8.1: operations that put no node in and take none out, and kinds that there are none of, move no path.
func TestOthers(t *testing.T) {
	for _, kind := range kinds() {
		if kind >= api.InsertNode && kind <= api.MoveNode {
			continue
		}
		for _, q := range places(2, 2) {
			for _, p := range places(3, 2) {
				for _, pos := range []int{0, 1, api.MaxCap} {
					wantMoves(t, []one{{api.Op{Kind: kind, Path: q, To: path(0), Pos: pos}, p, p, true}})
				}
			}
		}
	}
}

// P8.1: numbers of what is told may be greater than those that are asked for.
func TestGreatest(t *testing.T) {
	top := api.MaxCap
	wantMoves(t, []one{
		{insert(top), path(top), path(top + 1), true},
		{insert(0, top), path(0, top, top), path(0, top+1, top), true},
		{insert(0), path(top, top), path(top+1, top), true},
		{split(top, top), path(top, top), path(top+1, 0), true},
		{split(0, top), path(top, top), path(top+1, top), true},
		{split(0, 0), path(top), path(top + 1), true},
		{merge(top, top), path(top, top), path(top-1, 2*top), true},
		{merge(top, top-1), path(top, top), path(top-1, top), true},
		{remove(top - 1), path(top, top), path(top-1, top), true},
		{move(path(top), path(top, top)), path(top, top), path(top, top, top), true},
		{move(path(top), path(0)), path(top-1, top), path(top, top), true},
		{move(path(0, top), path(top)), path(top), path(top + 1), true},
	})
}

// P8.1: paths of very many numbers.
func TestDeep(t *testing.T) {
	const many = 1 << 16
	p := great(many, 2)
	last, first := many-1, 0
	ahead := p[:last]
	at := func(kind, pos int, q []int) api.Op { return api.Op{Kind: kind, Path: q, Pos: pos} }
	wantMoves(t, []one{
		{at(api.InsertNode, 0, p), p, with(p, last, 3), true},
		{at(api.InsertNode, 0, path(1)), p, with(p, first, 3), true},
		{at(api.InsertNode, 0, with(p, last, 3)), p, p, true},
		{at(api.RemoveNode, 0, ahead), p, nil, false},
		{at(api.RemoveNode, 0, with(p, last, 1)), p, with(p, last, 1), true},
		{at(api.MergeNode, 7, ahead), p, with(with(p, last-1, 1), last, 9), true},
		{at(api.MergeNode, 7, p), p, with(p, last, 1), true},
		{at(api.SplitNode, 2, ahead), p, with(with(p, last-1, 3), last, 0), true},
		{at(api.SplitNode, 3, ahead), p, p, true},
		{move(ahead, path(5)), p, path(5, 2), true},
		{move(path(2), p), p, great(2*many-1, 2), true},
		{move(path(1), p), p, with(p, first, 1), true},
		{move(path(1), with(p, first, 1)), p, with(with(p, first, 1), last, 3), true},
	})
}
