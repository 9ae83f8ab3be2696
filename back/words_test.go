package back_test

import (
	"math"
	"testing"

	"redline/api"
)

// told is what the chapter's words say of an operation of the fields of its kind, sentence by sentence.
func told(o api.Op) (api.Op, api.Errno) {
	last := len(o.Path) - 1
	switch o.Kind {
	case api.InsertNode:
		return api.Op{Kind: api.RemoveNode, Path: o.Path, Node: o.Node}, api.OK
	case api.RemoveNode:
		return api.Op{Kind: api.InsertNode, Path: o.Path, Node: o.Node}, api.OK
	case api.MergeNode, api.SplitNode:
		if last < 0 {
			return api.Op{}, api.ErrRoot
		}
		p := append([]int(nil), o.Path...)
		if o.Kind == api.MergeNode {
			if p[last] <= 0 {
				return api.Op{}, api.ErrPos
			}
			p[last]--
			return api.Op{Kind: api.SplitNode, Path: p, Pos: o.Pos, New: o.Old}, api.OK
		}
		if p[last] == math.MaxInt {
			return api.Op{}, api.ErrPos
		}
		p[last]++
		return api.Op{Kind: api.MergeNode, Path: p, Pos: o.Pos, Old: o.New}, api.OK
	case api.MoveNode:
		return api.Op{Kind: api.MoveNode, Path: o.To, To: o.Path}, api.OK
	case api.SetNode:
		return api.Op{Kind: api.SetNode, Path: o.Path, Old: o.New, New: o.Old}, api.OK
	case api.InsertText:
		return api.Op{Kind: api.RemoveText, Path: o.Path, Pos: o.Pos, Text: o.Text}, api.OK
	case api.RemoveText:
		return api.Op{Kind: api.InsertText, Path: o.Path, Pos: o.Pos, Text: o.Text}, api.OK
	}
	return api.Op{Kind: api.SetSel, From: o.Into, Into: o.From}, api.OK
}

// small tells operations of all kinds: each field that a kind has is each of what may fill it, or zero, and the others are zero.
func small() []api.Op {
	var out []api.Op
	for _, kind := range nine() {
		some := []api.Op{{Kind: kind}}
		for _, f := range fields() {
			if !f.isOf(kind) {
				continue
			}
			var more []api.Op
			for _, o := range some {
				for _, set := range append([]func(*api.Op){f.empties[1%len(f.empties)]}, f.fills...) {
					with := o
					set(&with)
					more = append(more, with)
				}
			}
			some = more
		}
		out = append(out, some...)
	}
	return out
}

// P11.1, P11.2: each small operation.
func TestByWords(t *testing.T) {
	for _, o := range small() {
		wantForm(t, o, api.OK)
		want, e := told(o)
		wantMoved(t, o, want, e)
	}
}

// P11.1, P11.2: each small operation with a field that its kind does not have.
func TestByWordsOneMore(t *testing.T) {
	for _, o := range small() {
		for _, f := range fields() {
			if f.isOf(o.Kind) {
				continue
			}
			for _, fill := range f.fills {
				with := o
				fill(&with)
				wantForm(t, with, api.ErrArg)
				wantError(t, with, api.ErrArg)
			}
		}
	}
}
