package xpoint_test

import (
	"slices"
	"testing"

	"redline/api"
	"redline/xpath"
	"redline/xpoint"
)

// told is what the chapter's words say, rune by rune. It asks for nothing that may not be.
func told(p api.Point, o api.Op, aff int) answer {
	to, is := xpath.Move(p.Path, o)
	if !is {
		return gone()
	}
	off, own, inside := p.Off, slices.Equal(o.Path, p.Path), len(o.Path) > 0
	behind := own && (o.Pos < off || o.Pos == off && aff == api.ForwardA)
	switch {
	case o.Kind == api.InsertText && behind:
		for range o.Text {
			off++
		}
	case o.Kind == api.RemoveText && own:
		for range o.Text {
			if off > o.Pos {
				off--
			}
		}
	case o.Kind == api.MergeNode && own && inside:
		off += o.Pos
	case o.Kind == api.SplitNode && behind && inside:
		to, off = with(to, len(to)-1, to[len(to)-1]+1), off-o.Pos
	case o.Kind == api.SplitNode && own && inside && o.Pos == off && aff == api.NoneA:
		return gone()
	}
	return answer{api.Point{Path: to, Off: off}, true}
}

// P9.1: each small point by each small operation, of each affinity.
func TestByWords(t *testing.T) {
	all := places(2, 2)
	for _, kind := range append(nine(), strange()...) {
		for _, q := range all {
			for _, p := range all {
				for pos := range 5 {
					for many := range 4 {
						o := api.Op{Kind: kind, Path: q, To: path(1), Pos: pos, Text: []rune("abc")[:many]}
						for off := range 5 {
							wantByWords(t, pt(off, p...), o)
						}
					}
				}
			}
		}
	}
}

// P9.1: points of deeper paths, by fewer operations.
func TestByWordsDeeper(t *testing.T) {
	all := places(3, 2)
	for _, q := range all {
		for _, p := range all {
			for _, kind := range nine() {
				for pos := range 4 {
					wantByWords(t, pt(2, p...), api.Op{Kind: kind, Path: q, To: q, Pos: pos, Text: []rune("ab")})
				}
			}
			for _, to := range places(2, 1) {
				wantByWords(t, pt(2, p...), move(q, to))
			}
		}
	}
}

func wantByWords(t *testing.T, p api.Point, o api.Op) {
	t.Helper()
	for _, aff := range affs() {
		wantMove(t, p, o, aff, told(p, o, aff))
	}
}

// P9.1, R2: what is handed in stays as it is, also in the room behind its lists, and what is told shares nothing with it, also where the point stays.
func TestShares(t *testing.T) {
	for _, kind := range append(nine(), strange()...) {
		for _, p := range places(2, 2) {
			for _, q := range places(2, 2) {
				for pos := range 4 {
					for _, aff := range []int{-1, api.NoneA, api.ForwardA, api.BackwardA, api.InwardA} {
						wantOwn(t, pt(2, p...), api.Op{Kind: kind, Path: q, To: path(0, 1), Pos: pos, Text: []rune("ab")}, aff)
					}
				}
			}
		}
	}
	wantOwn(t, pt(-1, 1, 2), put(0, 2, 1, 2), api.ForwardA)
	wantOwn(t, pt(api.MaxCap+1, 1, 2), put(0, 2, 1, 2), api.ForwardA)
	wantOwn(t, pt(3, 1, -1), put(0, 2, 1), api.ForwardA)
	wantOwn(t, pt(3, 1, 2, 3), move(path(1, 2), path(5, 6)), api.NoneA)
}

func wantOwn(t *testing.T, p api.Point, o api.Op, aff int) {
	t.Helper()
	p.Path, o = withRoom(p.Path, 88), roomy(o)
	was := show(p, o)
	got, is := xpoint.Move(p, o, aff)
	want := api.Point{Path: slices.Clone(got.Path), Off: got.Off}
	if show(p, o) != was {
		t.Fatalf("%s, %d: what was handed in is changed", what(p, o), aff)
	}
	again, _ := xpoint.Move(p, o, aff)
	spoil(got.Path)
	if show(p, o) != was || !alike(again, want) {
		t.Fatalf("%s, %d: what is told shares something", what(p, o), aff)
	}
	for _, l := range [][]int{p.Path, o.Path, o.To, o.From.Anchor.Path, o.Into.Focus.Path} {
		spoil(l)
	}
	if !alike(again, want) || !is && (got.Path != nil || got.Off != 0) {
		t.Fatalf("kind %d, %d: what is told hangs on what was handed in", o.Kind, aff)
	}
}
