package tree_test

import (
	"math"
	"slices"
	"strconv"
	"testing"

	"redline/api"
	"redline/tree"
)

// absent are paths at which the sample has no node.
func absent() [][]int {
	return [][]int{
		path(-1), path(4), path(5), path(math.MaxInt), path(math.MinInt),
		path(0, 0), path(0, -1), path(0, 1), path(0, 0, 0),
		path(1, -1), path(1, 3), path(1, 0, 0), path(1, 1, 0), path(1, 2, 2), path(1, 2, -1), path(1, 2, 1, 0),
		path(2, 0), path(2, -1), path(2, 0, 0),
		path(3, 1), path(3, 0, 1), path(3, 0, 0, 1), path(3, 0, 0, 0, 0), path(3, 0, 0, -1),
		path(-1, 0), path(-1, 2, 1), path(4, 0), path(1, -1, 1), path(1, 3, 0), path(math.MaxInt, 0), path(0, math.MaxInt), path(1, math.MinInt),
		path(1<<32, 0), path(1, 1<<32), path(1, 1<<32+2, 0),
		slices.Repeat(path(0), 1<<16), slices.Repeat(path(3), 1<<16),
	}
}

// P5.1: the node at a path: of the empty one the tree itself, else the Kid so numbered of the node at its parent.
func TestGet(t *testing.T) {
	n := sample()
	for _, x := range []struct {
		p    []int
		want api.Node
	}{
		{nil, sample()},
		{path(), sample()},
		{path(7, 7)[:0], sample()},
		{path(0), leaf("ab", "bold", "1")},
		{path(1), typed("p", leaf("c"), elem(), typed("q", leaf(""), leaf("de")))},
		{path(1, 0), leaf("c")},
		{path(1, 1), elem()},
		{path(1, 2), typed("q", leaf(""), leaf("de"))},
		{path(1, 2, 0), leaf("")},
		{path(1, 2, 1), leaf("de")},
		{path(2), elem()},
		{path(3), elem(elem(elem(leaf("f", "a", "1", "b", "2"))))},
		{path(3, 0), elem(elem(leaf("f", "a", "1", "b", "2")))},
		{path(3, 0, 0, 0), leaf("f", "a", "1", "b", "2")},
	} {
		if got, e := tree.Get(n, x.p); e != api.OK || show(got) != show(x.want) {
			t.Errorf("%v: got %s, %d, want %s", x.p, show(got), e, show(x.want))
		}
	}
	for _, p := range absent() {
		got, e := tree.Get(n, p)
		if e != api.ErrPath {
			t.Errorf("%.20v: got %d", p, e)
		}
		wantNothing(t, "get", e, got)
	}
}

// P5.1: with another node in its place, whatever both are; all else stays.
func TestPut(t *testing.T) {
	x := typed("x", leaf("y"), elem())
	for _, c := range []struct {
		n    api.Node
		p    []int
		m    api.Node
		want api.Node
	}{
		{sample(), nil, x, x},
		{sample(), path(), leaf("a"), leaf("a")},
		{sample(), nil, api.Node{}, api.Node{}},
		{leaf("a"), nil, elem(), elem()},
		{elem(), nil, leaf("a", "b", "1"), leaf("a", "b", "1")},
		{elem(leaf("a"), leaf("b"), leaf("c")), path(0), x, elem(x, leaf("b"), leaf("c"))},
		{elem(leaf("a"), leaf("b"), leaf("c")), path(1), x, elem(leaf("a"), x, leaf("c"))},
		{elem(leaf("a"), leaf("b"), leaf("c")), path(2), x, elem(leaf("a"), leaf("b"), x)},
		{elem(leaf("a")), path(0), leaf("a"), elem(leaf("a"))},
		{elem(leaf("a", "b", "1")), path(0), leaf("c"), elem(leaf("c"))},
		{elem(typed("p", leaf("a"), leaf("b"))), path(0), leaf("c"), elem(leaf("c"))},
		{typed("d", leaf("a"), typed("p", leaf("b"), typed("q", leaf("c"), leaf("d")), leaf("e")), leaf("f")), path(1, 1, 0), x,
			typed("d", leaf("a"), typed("p", leaf("b"), typed("q", x, leaf("d")), leaf("e")), leaf("f"))},
		{elem(), nil, sample(), sample()},
	} {
		if got, e := tree.Put(c.n, c.p, c.m); e != api.OK || show(got) != show(c.want) {
			t.Errorf("%s, %v: got %s, %d, want %s", show(c.n), c.p, show(got), e, show(c.want))
		}
	}
	for _, p := range absent() {
		got, e := tree.Put(sample(), p, x)
		if e != api.ErrPath {
			t.Errorf("%.20v: got %d", p, e)
		}
		wantNothing(t, "put", e, got)
	}
}

// P5.1: of a node alone there is none but itself.
func TestGetAndPutAlone(t *testing.T) {
	for _, n := range []api.Node{{}, elem(), leaf(""), leaf("abc", "a", "1"), typed("p")} {
		if got, e := tree.Get(n, nil); e != api.OK || show(got) != show(n) {
			t.Errorf("%s: got %s, %d", show(n), show(got), e)
		}
		for _, p := range [][]int{path(0), path(-1), path(1), path(0, 0), path(math.MaxInt), path(math.MinInt)} {
			got, e := tree.Get(n, p)
			put, d := tree.Put(n, p, leaf("x"))
			if e != api.ErrPath || d != api.ErrPath {
				t.Errorf("%s, %v: got %d, %d", show(n), p, e, d)
			}
			wantNothing(t, "alone", api.ErrPath, got, put)
		}
	}
}

// P5.1: of all small trees, at all paths near them, what the rows say.
func TestGetAndPutAll(t *testing.T) {
	m := typed("m", leaf("x"))
	for _, n := range trees(4, true) {
		l := rows(n)
		for _, p := range places(4, 3) {
			got, e := tree.Get(n, p)
			put, d := tree.Put(n, p, m)
			if _, is := rowAt(l, p); !is {
				if e != api.ErrPath || d != api.ErrPath {
					t.Fatalf("%s, %v: got %d, %d", show(n), p, e, d)
				}
				wantNothing(t, show(n), api.ErrPath, got, put)
				continue
			}
			if want := written(within(l, p)); e != api.OK || written(rows(got)) != want {
				t.Fatalf("%s, %v: got %s, %d, want\n%s", show(n), p, show(got), e, want)
			}
			want := written(sorted(slices.Concat(without(l, p), under(rows(m), p))))
			if d != api.OK || written(rows(put)) != want {
				t.Fatalf("%s, %v: put: got %s, %d, want\n%s", show(n), p, show(put), d, want)
			}
		}
	}
}

// P5.1: what may not be is found, and put, as it is.
func TestGetAndPutWhatMayNotBe(t *testing.T) {
	n := odd()
	for _, x := range []struct {
		p    []int
		want api.Node
	}{
		{nil, n},
		{path(0), n.Kids[0]},
		{path(0, 1), n.Kids[0].Kids[1]},
		{path(0, 1, 0), leaf("d")},
		{path(1), n.Kids[1]},
	} {
		if got, e := tree.Get(n, x.p); e != api.OK || show(got) != show(x.want) {
			t.Errorf("%v: got %s, %d", x.p, show(got), e)
		}
		put, e := tree.Put(sample(), path(1, 0), x.want)
		back, _ := tree.Get(put, path(1, 0))
		if e != api.OK || show(back) != show(x.want) {
			t.Errorf("%v: put: got %s, %d", x.p, show(put), e)
		}
	}
	got, e := tree.Put(n, path(0, 1, 0), leaf("x"))
	want := odd()
	want.Kids[0].Kids[1].Kids[0] = leaf("x")
	if e != api.OK || show(got) != show(want) {
		t.Errorf("got %s, %d", show(got), e)
	}
}

// P5.1: at the end of what may be: 2^16 levels, and many Kids.
func TestGetAndPutGreat(t *testing.T) {
	deep := slices.Repeat(path(0), 1<<16-1)
	n := chain(1<<16-1, leaf("a"))
	if got, e := tree.Get(n, deep); e != api.OK || show(got) != show(leaf("a")) {
		t.Errorf("got %s, %d", show(got), e)
	}
	if got, e := tree.Put(n, deep, leaf("b")); e != api.OK || show(got) != show(chain(1<<16-1, leaf("b"))) {
		t.Errorf("got %d", e)
	}
	if _, e := tree.Put(n, slices.Concat(deep, path(0)), leaf("b")); e != api.ErrPath {
		t.Errorf("got %d", e)
	}
	n = wide(1 << 16)
	for _, i := range []int{0, 1, 1 << 15, 1<<16 - 1} {
		if got, e := tree.Get(n, path(i)); e != api.OK || show(got) != show(n.Kids[i]) {
			t.Errorf("%d: got %s, %d", i, show(got), e)
		}
		want := wide(1 << 16)
		want.Kids[i] = leaf("x")
		if got, e := tree.Put(n, path(i), leaf("x")); e != api.OK || show(got) != show(want) {
			t.Errorf("%d: put: got %d", i, e)
		}
	}
}

// R2, P5.1: what is told shares nothing with what was handed in, nor do two lists of it with one another.
func TestGetAndPutNew(t *testing.T) {
	for i, n := range newOf() {
		n, m := roomy(n), roomy(typed("m", leaf("x", "a", "1"), elem()))
		for _, r := range rows(n) {
			name := strconv.Itoa(i)
			got, _ := tree.Get(n, r.p)
			wantNew(t, name, []api.Node{n}, got)
			put, _ := tree.Put(n, r.p, m)
			wantNew(t, name, []api.Node{n, m}, put)
			self, e := tree.Put(n, r.p, n)
			if e != api.OK {
				t.Errorf("%s, %v: got %d", name, r.p, e)
			}
			wantNew(t, name, []api.Node{n}, self)
		}
	}
}

// newOf are trees that what is told is to share nothing with; of the last one some nodes share their lists.
func newOf() []api.Node {
	s := sample()
	return []api.Node{leaf("abc", "a", "1"), elem(), sample(), odd(), typed("twice", s, s, api.Node{Props: s.Props, Kids: s.Kids})}
}
