package back_test

import (
	"testing"

	"redline/api"
)

// P11.1: each of the nine kinds may have all of its fields, or none.
func TestForm(t *testing.T) {
	for _, x := range full() {
		wantForm(t, x.o, api.OK)
		wantForm(t, x.inverse, api.OK)
		wantForm(t, api.Op{Kind: x.o.Kind}, api.OK)
	}
}

// P11.1: of each kind each field alone, with each of what fills it and of what is zero: a field that the kind has may be whatever, another one only zero.
func TestFormEachField(t *testing.T) {
	for _, x := range full() {
		for _, f := range fields() {
			for _, fill := range f.fills {
				want := api.ErrArg
				if f.isOf(x.o.Kind) {
					want = api.OK
				}
				wantWith(t, x.o.Kind, want, fill)
				o := x.o
				fill(&o)
				wantForm(t, o, want)
			}
			for _, empty := range f.empties {
				wantWith(t, x.o.Kind, api.OK, empty)
				o := x.o
				empty(&o)
				wantForm(t, o, api.OK)
			}
		}
	}
}

func wantWith(t *testing.T, kind int, want api.Errno, set func(*api.Op)) {
	t.Helper()
	o := api.Op{Kind: kind}
	set(&o)
	wantForm(t, o, want)
}

// P11.1: of each kind, and of what is none, any fields together: one that is there and should not be is enough, however many others may be there.
func TestFormSomeFields(t *testing.T) {
	all := fields()
	for _, kind := range append(nine(), strange()...) {
		for some := range 1 << len(all) {
			o, want := api.Op{Kind: kind}, api.OK
			for i, f := range all {
				if some>>i&1 == 0 {
					f.empties[len(f.empties)-1](&o)
					continue
				}
				f.fills[0](&o)
				if !f.isOf(kind) {
					want = api.ErrArg
				}
			}
			if kind < 1 || kind > 9 {
				want = api.ErrArg
			}
			wantForm(t, o, want)
		}
	}
}

// P11.1: what is no kind may not be, with the fields of any kind, or without.
func TestFormNoKind(t *testing.T) {
	for _, kind := range strange() {
		wantForm(t, api.Op{Kind: kind}, api.ErrArg)
		for _, x := range full() {
			o := x.o
			o.Kind = kind
			wantForm(t, o, api.ErrArg)
		}
	}
}

// P11.1: a kind may not have the fields of another one, but of the one that undoes it, if that has the same.
func TestFormOtherKind(t *testing.T) {
	for _, x := range full() {
		for _, kind := range nine() {
			o, want := x.o, api.ErrArg
			o.Kind = kind
			if kind == x.o.Kind || kind == x.inverse.Kind && kind != api.MergeNode && kind != api.SplitNode {
				want = api.OK
			}
			wantForm(t, o, want)
		}
	}
}

// P11.1: a node is zero, if it is the same as one with nothing: not one that is a leaf, nor one that has but an empty Kid; and a selection, if it is none, and has neither Offs nor paths.
func TestFormZero(t *testing.T) {
	for _, x := range []struct {
		o    api.Op
		want api.Errno
	}{
		{api.Op{Kind: api.MoveNode, Node: api.Node{Props: []api.Prop{}, Text: []rune{}, Kids: []api.Node{}}}, api.OK},
		{api.Op{Kind: api.MoveNode, Node: api.Node{Leaf: true}}, api.ErrArg},
		{api.Op{Kind: api.MoveNode, Node: api.Node{Kids: make([]api.Node, 1)}}, api.ErrArg},
		{api.Op{Kind: api.MoveNode, Node: api.Node{Text: make([]rune, 1)}}, api.ErrArg},
		{api.Op{Kind: api.MoveNode, Node: api.Node{Props: make([]api.Prop, 1)}}, api.ErrArg},
		{api.Op{Kind: api.MoveNode, Node: chain(1<<16-1, leaf("a"))}, api.ErrArg},
		{api.Op{Kind: api.MoveNode, From: no(pt(0, path()...), pt(0, path()...))}, api.OK},
		{api.Op{Kind: api.MoveNode, From: sel(pt(0), pt(0))}, api.ErrArg},
		{api.Op{Kind: api.MoveNode, Into: no(pt(0), pt(1))}, api.ErrArg},
		{api.Op{Kind: api.MoveNode, Into: no(pt(0, 0), pt(0))}, api.ErrArg},
		{api.Op{Kind: api.SetSel, Path: path(), To: path(), Old: props(), New: []api.Prop{}, Text: []rune{}}, api.OK},
		{api.Op{Kind: api.SetSel, Path: path(0)}, api.ErrArg},
		{api.Op{Kind: api.SetSel, From: no(pt(1, 2), pt(3)), Into: no(pt(-4), pt(5, -6))}, api.OK},
	} {
		wantForm(t, x.o, x.want)
	}
}
