package dirty_test

import (
	"math"
	"slices"
	"testing"

	"redline/api"
	"redline/dirty"
)

// wantReady looks at a list as it stands, turned round, and with each path twice.
func wantReady(t *testing.T, l, want [][]int) {
	t.Helper()
	turned := slices.Clone(l)
	slices.Reverse(turned)
	for _, x := range [][][]int{l, turned, slices.Concat(l, turned), slices.Concat(turned, turned)} {
		wantSet(t, few(x), dirty.Ready(x), want)
	}
}

// P13.4: those above which no path of the list stands.
func TestReady(t *testing.T) {
	for _, x := range []struct{ l, want [][]int }{
		{nil, nil},
		{[][]int{}, nil},
		{paths(nil), paths(nil)},
		{paths(path()), paths(nil)},
		{paths(path(3, 1)), paths(path(3, 1))},
		{paths(path(0), path(1), path(2)), paths(path(0), path(1), path(2))},
		{paths(path(2), path(0), path(1)), paths(path(0), path(1), path(2))},
		{paths(path(2, 0), path(0, 1), path(2), path(0, 3, 1), path(0, 1)), paths(path(0, 1), path(0, 3, 1), path(2))},
		// One that is above many others, at whatever depth.
		{paths(path(1, 0), path(1), path(1, 0, 5), path(1, 1), path(1, 9, 9, 9), path(0)), paths(path(0), path(1))},
		{paths(path(1, 2, 3), path(1, 2, 3, 4), path(1), path(1, 2), path(1, 2, 3, 4, 5)), paths(path(1))},
		{paths(path(1, 0, 0), path(1, 1, 0), path(1, 0), path(1, 1)), paths(path(1, 0), path(1, 1))},
		// Others behind what was left out, and one whose parent is not in the list.
		{paths(path(0), path(0, 5), path(1, 5), path(1, 5, 2), path(2, 0), path(2, 1)), paths(path(0), path(1, 5), path(2, 0), path(2, 1))},
		{paths(path(0, 0, 0, 0), path(0, 0, 0, 1), path(0, 0, 1)), paths(path(0, 0, 0, 0), path(0, 0, 0, 1), path(0, 0, 1))},
		// The empty path is above all others.
		{paths(path(2, 0), nil, path(2)), paths(nil)},
		{paths(path(0), path(-1), path(math.MinInt), nil, path(math.MaxInt)), paths(nil)},
		// One beside another, whose numbers begin alike.
		{paths(path(1), path(10), path(1, 0), path(10, 0), path(11), path(100)), paths(path(1), path(10), path(11), path(100))},
		{paths(path(1, 1), path(1, 11), path(11, 1), path(1, 1, 1)), paths(path(1, 1), path(1, 11), path(11, 1))},
		{paths(path(1, 2), path(1, 2, 0), path(1, 20), path(1, 3), path(1, 2, 9)), paths(path(1, 2), path(1, 3), path(1, 20))},
		// Paths that lead nowhere, of whatever numbers.
		{paths(path(-1), path(-1, 0), path(-2, 0)), paths(path(-2, 0), path(-1))},
		{paths(path(math.MaxInt, 0), path(math.MinInt, 0), path(math.MinInt), path(math.MaxInt)), paths(path(math.MinInt), path(math.MaxInt))},
		{paths(path(1<<32), path(0), path(1<<32, 1), path(api.MaxCap+1, -1)), paths(path(0), path(api.MaxCap+1, -1), path(1<<32))},
	} {
		wantReady(t, x.l, x.want)
	}
}

// P13.4, P13.5: of all lists of few small paths, in each order, what the chapter's words say; none is above another one, there are some, if there are any in the list, and each of the list is told, or below one that is.
func TestReadyByWords(t *testing.T) {
	all := places(3, 1)
	var from func(l [][]int, most int)
	from = func(l [][]int, most int) {
		wantReadyByWords(t, l)
		if most == 0 {
			return
		}
		for _, p := range all {
			from(append(l[:len(l):len(l)], p), most-1)
		}
	}
	from(nil, 3)
}

func wantReadyByWords(t *testing.T, l [][]int) {
	t.Helper()
	got := dirty.Ready(l)
	wantSet(t, few(l), got, readyOf(l))
	if len(l) > 0 && len(got) == 0 {
		t.Fatalf("%s: none is ready", few(l))
	}
	for _, p := range got {
		if slices.ContainsFunc(got, func(q []int) bool { return above(q, p) }) {
			t.Fatalf("%s: got %s", few(l), few(got))
		}
	}
	for _, p := range l {
		if !slices.ContainsFunc(got, func(q []int) bool { return begins(p, q) }) {
			t.Fatalf("%s: %v is below none of %s", few(l), p, few(got))
		}
	}
}

// P13.5: of what is told of trees and operations.
func TestReadyOfSets(t *testing.T) {
	for _, n := range trees(5, false) {
		wantReadyByWords(t, dirty.All(n))
		for _, p := range places(2, 2) {
			for _, kind := range kinds() {
				o := api.Op{Kind: kind, Path: p, To: path(0, 0)}
				wantReadyByWords(t, dirty.Marks(n, o))
				wantReadyByWords(t, dirty.Step(n, paths(path(1), path(0, 0), path(0)), o))
			}
		}
		if !n.Leaf {
			wantReady(t, dirty.All(n), paths(nil))
			wantReady(t, dirty.All(n)[1:], readyOf(dirty.All(n)[1:]))
		}
	}
}

// P13.4: of very many paths, and of very long ones.
func TestReadyGreat(t *testing.T) {
	const far = 1 << 16
	var l, want [][]int
	for i := range far {
		k := i * 77773 % far
		l = append(l, path(k, 0), path(k), path(k, 1, 2))
		want = append(want, path(i))
	}
	wantReady(t, l, want)
	wantReady(t, append(l, nil), paths(nil))
	down := make([]int, 1<<11)
	l = nil
	for i := range down {
		l = append(l, down[i:], slices.Concat(down[:i], path(1)))
	}
	want = nil
	for i := len(down) - 1; i >= 0; i-- {
		want = append(want, slices.Concat(down[:i], path(1)))
	}
	wantReady(t, l, slices.Concat(paths(path(0)), want[len(want)-1:]))
	wantReady(t, want, want)
}
