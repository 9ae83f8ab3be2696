package back_test

import (
	"math"
	"slices"
	"testing"

	"redline/api"
	"redline/back"
)

// P11.3: of no operations there are no inverses.
func TestAllOfNone(t *testing.T) {
	wantAll(t, nil, nil, api.OK)
	wantAll(t, []api.Op{}, nil, api.OK)
	wantAll(t, make([]api.Op, 0, 3), nil, api.OK)
}

// P11.3: of one operation it is its inverse, or its error.
func TestAllOfOne(t *testing.T) {
	for _, o := range small() {
		if want, e := told(o); e == api.OK {
			wantAll(t, []api.Op{o}, []api.Op{want}, api.OK)
		} else {
			wantAll(t, []api.Op{o}, nil, e)
		}
	}
	for _, kind := range strange() {
		wantAll(t, []api.Op{{Kind: kind}}, nil, api.ErrArg)
	}
}

// P11.3: of operations of all kinds the last one's inverse comes first.
func TestAll(t *testing.T) {
	var l, want []api.Op
	for _, x := range full() {
		l, want = append(l, x.o), append(want, x.inverse)
	}
	slices.Reverse(want)
	for i := range l {
		wantAll(t, l[:i], want[len(want)-i:], api.OK)
		wantAll(t, l[i:], want[:len(want)-i], api.OK)
	}
	wantAll(t, []api.Op{l[0], l[0], l[4], l[0]}, []api.Op{want[8], want[4], want[8], want[8]}, api.OK)
	wantAll(t, []api.Op{{Kind: 1, Path: path(1)}, {Kind: 5, Path: path(1), To: path(2)}}, []api.Op{{Kind: 5, Path: path(2), To: path(1)}, {Kind: 2, Path: path(1)}}, api.OK)
}

// P11.3: whatever some operations are, and wherever those that have no inverse stand: the last of these tells the error.
func TestAllErrors(t *testing.T) {
	among := []struct {
		o api.Op
		e api.Errno
	}{
		{api.Op{Kind: api.InsertNode, Path: path(1), Node: leaf("a")}, api.OK},
		{api.Op{Kind: api.SplitNode, Path: path(1), Pos: 2}, api.OK},
		{api.Op{}, api.ErrArg},
		{api.Op{Kind: api.MergeNode, New: props("a", "1")}, api.ErrArg},
		{api.Op{Kind: api.MergeNode}, api.ErrRoot},
		{api.Op{Kind: api.SplitNode}, api.ErrRoot},
		{api.Op{Kind: api.MergeNode, Path: path(3, 0)}, api.ErrPos},
		{api.Op{Kind: api.SplitNode, Path: path(math.MaxInt)}, api.ErrPos},
	}
	many := len(among)
	for n := range many * many * many * many {
		var l, want []api.Op
		e := api.OK
		for range 4 {
			x := among[n%many]
			n /= many
			l = append(l, x.o)
			if x.e != api.OK {
				e = x.e
				continue
			}
			i, _ := told(x.o)
			want = slices.Insert(want, 0, i)
		}
		if e != api.OK {
			want = nil
		}
		wantAll(t, l, want, e)
	}
}

// P11.3: as many as a batch may have, and more.
func TestAllOfMany(t *testing.T) {
	for _, many := range []int{api.MaxOps, api.MaxOps + 1, 1 << 16} {
		l := make([]api.Op, many)
		for i := range l {
			l[i] = api.Op{Kind: api.SplitNode, Path: path(i), Pos: i}
		}
		got, e := back.All(l)
		if e != api.OK || len(got) != many {
			t.Fatalf("%d operations: got %d, %d", many, len(got), e)
		}
		for i, o := range got {
			at := many - 1 - i
			if show(o) != show(api.Op{Kind: api.MergeNode, Path: path(at + 1), Pos: at}) {
				t.Fatalf("%d: got %s", i, show(o))
			}
		}
		l[0] = api.Op{}
		wantAll(t, l, nil, api.ErrArg)
		l[many-1] = api.Op{Kind: api.SplitNode}
		wantAll(t, l, nil, api.ErrRoot)
	}
}
