package back_test

import (
	"math"
	"slices"
	"testing"

	"redline/api"
	"redline/back"
)

// may tells whether no number of a path is below 0.
func may(p []int) bool { return !slices.ContainsFunc(p, func(n int) bool { return n < 0 }) }

// P11.4: the inverse of an inverse is the operation, if its Path may be; what its other fields are, To among them, is nothing to that.
func TestInverseTwice(t *testing.T) {
	for _, o := range small() {
		i, e := back.Inverse(o)
		if e == api.OK && may(o.Path) {
			wantInverse(t, i, o)
		}
	}
	for _, x := range full() {
		i, _ := back.Inverse(x.o)
		wantInverse(t, i, x.o)
	}
}

// P11.4: of all kinds but SplitNode it is the operation also if its Path may not be; the inverse of a SplitNode whose Path's last number is below 0 has none.
func TestInverseTwiceOfWhatMayNotBe(t *testing.T) {
	for _, o := range small() {
		i, e := back.Inverse(o)
		if e == api.OK && o.Kind != api.SplitNode {
			wantInverse(t, i, o)
		}
	}
	for _, last := range []int{-1, -2, -1 << 32, math.MinInt} {
		for _, p := range [][]int{path(last), path(1, last), path(-3, last)} {
			i, e := back.Inverse(api.Op{Kind: api.SplitNode, Path: p})
			if e != api.OK {
				t.Fatalf("%v: got %d", p, e)
			}
			wantError(t, i, api.ErrPos)
		}
	}
	o := api.Op{Kind: api.SplitNode, Path: path(-1, 0)}
	i, _ := back.Inverse(o)
	wantInverse(t, i, o)
}

// P11.4: so of many: the inverses of the inverses are the operations, in their order.
func TestAllTwice(t *testing.T) {
	var l []api.Op
	for _, x := range full() {
		l = append(l, x.o, x.inverse)
	}
	for _, o := range small() {
		if _, e := told(o); e == api.OK && may(o.Path) {
			l = append(l, o)
		}
	}
	i, e := back.All(l)
	if e != api.OK || len(i) != len(l) {
		t.Fatalf("got %d, %d", len(i), e)
	}
	wantAll(t, i, l, api.OK)
}
