package xpoint_test

import (
	"testing"

	"redline/api"
)

// P9.1: a text that is put in moves the points of its leaf that stand behind it, and a forward one just there.
func TestInsertText(t *testing.T) {
	wantMoves(t, []one{
		// Ahead of the point.
		each(put(2, 2, 1), pt(3, 1), at(5, 1)),
		each(put(0, 2, 1), pt(3, 1), at(5, 1)),
		each(put(0, 1, 1), pt(1, 1), at(2, 1)),
		each(put(1, 7, 4, 0, 2), pt(9, 4, 0, 2), at(16, 4, 0, 2)),
		// Just where it stands.
		{put(3, 2, 1), pt(3, 1), at(3, 1), at(5, 1), at(3, 1)},
		{put(3, 1, 0, 5), pt(3, 0, 5), at(3, 0, 5), at(4, 0, 5), at(3, 0, 5)},
		{put(0, 4, 1), pt(0, 1), at(0, 1), at(4, 1), at(0, 1)},
		// Behind it.
		stays(put(4, 2, 1), pt(3, 1)),
		stays(put(9, 2, 1), pt(3, 1)),
		stays(put(1, 2, 1), pt(0, 1)),
		stays(put(api.MaxCap, 2, 1), pt(api.MaxCap-1, 1)),
		// No runes.
		stays(put(0, 0, 1), pt(3, 1)),
		stays(put(3, 0, 1), pt(3, 1)),
		stays(put(4, 0, 1), pt(3, 1)),
	})
}

// P9.1: a text that is taken out moves the points of its leaf that stand behind where it begins, but no further than there.
func TestRemoveText(t *testing.T) {
	wantMoves(t, []one{
		// It ends ahead of the point.
		each(take(0, 2, 1), pt(3, 1), at(1, 1)),
		each(take(1, 1, 1), pt(3, 1), at(2, 1)),
		each(take(2, 3, 4, 0, 2), pt(9, 4, 0, 2), at(6, 4, 0, 2)),
		// It ends where the point stands.
		each(take(0, 3, 1), pt(3, 1), at(0, 1)),
		each(take(1, 2, 1), pt(3, 1), at(1, 1)),
		each(take(2, 1, 1), pt(3, 1), at(2, 1)),
		// It ends behind it.
		each(take(0, 4, 1), pt(3, 1), at(0, 1)),
		each(take(1, 3, 1), pt(3, 1), at(1, 1)),
		each(take(2, 2, 1), pt(3, 1), at(2, 1)),
		each(take(2, 50, 0, 5), pt(3, 0, 5), at(2, 0, 5)),
		// It begins where the point stands, or behind it.
		stays(take(3, 1, 1), pt(3, 1)),
		stays(take(3, 50, 1), pt(3, 1)),
		stays(take(4, 2, 1), pt(3, 1)),
		stays(take(9, 2, 1), pt(3, 1)),
		stays(take(0, 2, 1), pt(0, 1)),
		stays(take(1, 2, 1), pt(0, 1)),
		// No runes.
		stays(take(0, 0, 1), pt(3, 1)),
		stays(take(2, 0, 1), pt(3, 1)),
		stays(take(3, 0, 1), pt(3, 1)),
		stays(take(4, 0, 1), pt(3, 1)),
	})
}

// P9.1: a text put in or taken out is nothing to points of other paths.
func TestTextElsewhere(t *testing.T) {
	for _, q := range [][]int{path(1, 1), path(0, 1, 2)} {
		for _, p := range [][]int{nil, path(0), path(1), path(2), path(0, 1), path(1, 0), path(1, 2), path(1, 1, 0), path(1, 1, 2), path(2, 1), path(0, 1, 1), path(0, 1, 3), path(0, 1, 2, 2), path(0, 2, 2)} {
			for pos := range 6 {
				wantMoves(t, []one{
					stays(put(pos, 2, q...), pt(3, p...)),
					stays(take(pos, 2, q...), pt(3, p...)),
				})
			}
		}
	}
}

// P9.1: a leaf that is merged into the one ahead takes its points along, behind the runes of that one.
func TestMerge(t *testing.T) {
	wantMoves(t, []one{
		// At the point's own path: Pos less than Off, the same, and greater.
		each(merge(0, 1), pt(3, 1), at(3, 0)),
		each(merge(2, 1), pt(3, 1), at(5, 0)),
		each(merge(3, 1), pt(3, 1), at(6, 0)),
		each(merge(4, 1), pt(3, 1), at(7, 0)),
		each(merge(4, 1), pt(0, 1), at(4, 0)),
		each(merge(1, 0, 5), pt(9, 0, 5), at(10, 0, 4)),
		// Above it: its number goes, its Off stays.
		each(merge(4, 1), pt(3, 1, 2), at(3, 0, 6)),
		each(merge(3, 1), pt(3, 1, 0), at(3, 0, 3)),
		each(merge(2, 0, 1), pt(3, 0, 1, 2, 7), at(3, 0, 0, 4, 7)),
		// To the left of it: what takes it in, too.
		stays(merge(4, 1), pt(3, 0)),
		stays(merge(2, 1), pt(3, 0, 1)),
		stays(merge(3, 0, 3), pt(3, 0, 1)),
		// To the right of it.
		each(merge(2, 1), pt(3, 2), at(3, 1)),
		each(merge(3, 1), pt(3, 2), at(3, 1)),
		each(merge(4, 0, 1), pt(3, 0, 5, 1), at(3, 0, 4, 1)),
		// Below it, and on another branch.
		stays(merge(2, 1, 1), pt(3, 1)),
		stays(merge(2, 1, 1), pt(3, 0, 1)),
		stays(merge(4, 0, 1), pt(3, 1)),
		stays(merge(4, 0, 1), pt(3, 1, 1)),
	})
}

// P9.1: nothing is told of a MergeNode at a first child, whatever point is asked for.
func TestMergeFirst(t *testing.T) {
	for _, q := range [][]int{path(0), path(0, 0), path(1, 0)} {
		for _, p := range places(3, 1) {
			for pos := range 5 {
				wantMoves(t, []one{each(merge(pos, q...), pt(3, p...), gone())})
			}
		}
	}
}

// P9.1: a leaf that is split hands those of its points on that stand behind the place, and a forward one just there; of one without an affinity just there nothing is told.
func TestSplit(t *testing.T) {
	wantMoves(t, []one{
		// Ahead of the point.
		each(split(2, 1), pt(3, 1), at(1, 2)),
		each(split(0, 1), pt(3, 1), at(3, 2)),
		each(split(4, 0, 1), pt(9, 0, 1), at(5, 0, 2)),
		// Just where it stands.
		{split(3, 1), pt(3, 1), gone(), at(0, 2), at(3, 1)},
		{split(0, 1), pt(0, 1), gone(), at(0, 2), at(0, 1)},
		{split(7, 4, 0, 2), pt(7, 4, 0, 2), gone(), at(0, 4, 0, 3), at(7, 4, 0, 2)},
		// Behind it.
		stays(split(4, 1), pt(3, 1)),
		stays(split(9, 0, 1), pt(3, 0, 1)),
		stays(split(1, 1), pt(0, 1)),
		// Above it: its number is split off, its Off stays, also where Pos is Off.
		each(split(2, 1), pt(3, 1, 2), at(3, 2, 0)),
		each(split(3, 1), pt(3, 1, 4), at(3, 2, 1)),
		each(split(3, 1), pt(3, 1, 3), at(3, 2, 0)),
		stays(split(3, 1), pt(3, 1, 2)),
		each(split(3, 0, 1), pt(3, 0, 1, 5, 3), at(3, 0, 2, 2, 3)),
		// To the left of it, and to the right.
		each(split(2, 1), pt(3, 2), at(3, 3)),
		each(split(3, 1), pt(3, 2), at(3, 3)),
		each(split(3, 0, 1), pt(3, 0, 5, 1), at(3, 0, 6, 1)),
		stays(split(2, 1), pt(3, 0)),
		stays(split(3, 1), pt(3, 0)),
		stays(split(3, 1), pt(3, 0, 3)),
		// Below it, and on another branch.
		stays(split(3, 1, 1), pt(3, 1)),
		stays(split(3, 1, 1), pt(3, 0, 1)),
		stays(split(2, 0, 1), pt(3, 1)),
		stays(split(3, 0, 1), pt(3, 1, 1)),
	})
}

// P9.1: nodes that are put in, taken out, moved and changed move a point's path alone, whatever Pos says.
func TestNodes(t *testing.T) {
	for _, pos := range []int{0, 2, 3, 4, api.MaxCap} {
		all := []one{
			each(insert(1), pt(3, 1), at(3, 2)),
			each(insert(1), pt(3, 1, 5), at(3, 2, 5)),
			each(insert(0), pt(3, 1), at(3, 2)),
			stays(insert(2), pt(3, 1)),
			stays(insert(1, 0), pt(3, 1)),
			stays(insert(0, 1), pt(3, 1, 1)),
			each(remove(1), pt(3, 1), gone()),
			each(remove(1), pt(3, 1, 5), gone()),
			each(remove(0), pt(3, 1), at(3, 0)),
			stays(remove(2), pt(3, 1)),
			stays(remove(1, 0), pt(3, 1)),
			stays(remove(0, 1), pt(3, 1, 1)),
			each(move(path(1), path(4, 2)), pt(3, 1), at(3, 4, 2)),
			each(move(path(1), path(4, 2)), pt(3, 1, 5), at(3, 4, 2, 5)),
			each(move(path(1), path(4, 2)), pt(3, 2), at(3, 1)),
			each(move(path(1), path(4, 2)), pt(3, 5, 2), at(3, 4, 3)),
			each(move(path(1), path(0)), pt(3, 0), at(3, 1)),
			each(move(path(1), nil), pt(3, 1), at(3)),
			stays(move(path(1), path(1)), pt(3, 1)),
			stays(move(path(1), path(4, 2)), pt(3, 0)),
			stays(move(path(1), path(4, 2)), pt(3)),
			stays(move(path(0, 1), path(0, 2)), pt(3, 1)),
		}
		for _, q := range places(2, 1) {
			for _, kind := range []int{api.SetNode, api.SetSel} {
				all = append(all, stays(api.Op{Kind: kind, Path: q, To: path(0)}, pt(3, 1)))
			}
		}
		for i := range all {
			all[i].o.Pos, all[i].o.Text = pos, []rune("ab")
		}
		wantMoves(t, all)
	}
}

// P9.1: with q empty texts alone are something to the point of the root, and nothing is to any other one.
func TestAtRoot(t *testing.T) {
	for _, q := range [][]int{nil, path(), path(1, 2)[:0]} {
		wantMoves(t, []one{
			each(put(2, 2, q...), pt(3, q...), at(5)),
			{put(3, 2, q...), pt(3, q...), at(3), at(5), at(3)},
			stays(put(4, 2, q...), pt(3, q...)),
			each(take(0, 2, q...), pt(3, q...), at(1)),
			each(take(1, 2, q...), pt(3, q...), at(1)),
			each(take(2, 2, q...), pt(3, q...), at(2)),
			stays(take(3, 2, q...), pt(3, q...)),
		})
		for _, kind := range append(nine(), strange()...) {
			for pos := range 6 {
				o := api.Op{Kind: kind, Path: q, To: path(1), Pos: pos, Text: []rune("ab")}
				for _, p := range places(2, 1)[1:] {
					wantMoves(t, []one{stays(o, pt(3, p...))})
				}
				if kind != api.InsertText && kind != api.RemoveText {
					wantMoves(t, []one{stays(o, pt(3, nil...)), stays(o, pt(3, q...))})
				}
			}
		}
	}
}

// P9.1: Off and Pos may be 0 and MaxCap; what is told may be greater.
func TestEnds(t *testing.T) {
	const top = api.MaxCap
	wantMoves(t, []one{
		stays(put(top, 2, 1), pt(0, 1)),
		{put(top, 2, 1), pt(top, 1), at(top, 1), at(top+2, 1), at(top, 1)},
		each(put(0, 2, 1), pt(top, 1), at(top+2, 1)),
		each(put(top-1, top+5, 1), pt(top, 1), at(2*top+5, 1)),
		stays(take(top, 2, 1), pt(top, 1)),
		stays(take(top, 2, 1), pt(0, 1)),
		each(take(top-1, 2, 1), pt(top, 1), at(top-1, 1)),
		each(take(0, top, 1), pt(top, 1), at(0, 1)),
		each(take(0, top-1, 1), pt(top, 1), at(1, 1)),
		each(take(0, top+5, 1), pt(top, 1), at(0, 1)),
		each(take(0, top+5, 1), pt(1, 1), at(0, 1)),
		each(merge(top, 1), pt(top, 1), at(2*top, 0)),
		each(merge(top, top), pt(0, top), at(top, top-1)),
		each(merge(top, 1), pt(top, 1, top), at(top, 0, 2*top)),
		each(split(0, top), pt(top, top), at(top, top+1)),
		each(split(top-1, 1), pt(top, 1), at(1, 2)),
		{split(top, top), pt(top, top), gone(), at(0, top+1), at(top, top)},
		stays(split(top, 1), pt(top-1, 1)),
		stays(split(top, 1), pt(0, 1)),
		each(insert(top), pt(top, top), at(top, top+1)),
	})
}

// P9.1: of a text only how many runes it has is asked, not whether they are some; of other operations not even that.
func TestWhichRunes(t *testing.T) {
	for _, text := range [][]rune{{'a', 'b'}, {-1, 0xd800}, {0x110000, -1 << 31}, {0, 0}, {0x2603, 0x1f600}} {
		in := api.Op{Kind: api.InsertText, Path: path(1), Pos: 1, Text: text}
		out := api.Op{Kind: api.RemoveText, Path: path(1), Text: text}
		half := api.Op{Kind: api.SplitNode, Path: path(1), Pos: 1, Text: text}
		both := api.Op{Kind: api.MergeNode, Path: path(1), Pos: 1, Text: text}
		wantMoves(t, []one{
			each(in, pt(3, 1), at(5, 1)),
			each(out, pt(3, 1), at(1, 1)),
			each(half, pt(3, 1), at(2, 2)),
			each(both, pt(3, 1), at(4, 0)),
		})
	}
}

// P9.1: points of paths of very many numbers.
func TestDeep(t *testing.T) {
	const many = 1 << 16
	p := make([]int, many)
	for i := range p {
		p[i] = 2
	}
	last := many - 1
	on := func(off int, l []int) answer { return answer{api.Point{Path: l, Off: off}, true} }
	deep := api.Point{Path: p, Off: 3}
	wantMoves(t, []one{
		each(put(1, 2, p...), deep, on(5, p)),
		each(take(1, 1, p...), deep, on(2, p)),
		each(merge(4, p...), deep, on(7, with(p, last, 1))),
		each(merge(4, p[:last]...), deep, on(3, with(with(p, last-1, 1), last, 6))),
		each(split(1, p...), deep, on(2, with(p, last, 3))),
		{split(3, p...), deep, gone(), on(0, with(p, last, 3)), on(3, p)},
		stays(put(1, 2, p[:last]...), deep),
		stays(put(1, 2, with(p, last, 3)...), deep),
		stays(put(1, 2, append(p[:many:many], 0)...), deep),
	})
}
