package tree_test

import (
	"math"
	"slices"
	"strconv"
	"testing"

	"redline/api"
	"redline/tree"
)

// P5.2: put in ahead of those that stood there, and behind the last one, at whatever depth.
func TestAdd(t *testing.T) {
	x := typed("x", leaf("y"), elem())
	abc := func(l ...api.Node) api.Node { return typed("p", l...) }
	a, b, c := leaf("a"), elem(leaf("b")), leaf("c", "d", "1")
	for _, k := range []struct {
		n    api.Node
		p    []int
		m    api.Node
		want api.Node
	}{
		{elem(), path(0), x, elem(x)},
		{elem(), path(0), api.Node{}, elem(elem())},
		{api.Node{}, path(0), leaf(""), elem(leaf(""))},
		{abc(a, b, c), path(0), x, abc(x, a, b, c)},
		{abc(a, b, c), path(1), x, abc(a, x, b, c)},
		{abc(a, b, c), path(2), x, abc(a, b, x, c)},
		{abc(a, b, c), path(3), x, abc(a, b, c, x)},
		{abc(a, b, c), path(1), b, abc(a, b, b, c)},
		{abc(a, b, c), path(1, 0), x, abc(a, elem(x, leaf("b")), c)},
		{abc(a, b, c), path(1, 1), x, abc(a, elem(leaf("b"), x), c)},
		{elem(leaf("a"), elem()), path(1, 0), leaf("x"), elem(leaf("a"), elem(leaf("x")))},
		{elem(elem(elem(leaf("a"), leaf("b")), leaf("c")), leaf("d")), path(0, 0, 1), x,
			elem(elem(elem(leaf("a"), x, leaf("b")), leaf("c")), leaf("d"))},
		{elem(elem(elem(leaf("a"), leaf("b")), leaf("c")), leaf("d")), path(0, 2), x,
			elem(elem(elem(leaf("a"), leaf("b")), leaf("c"), x), leaf("d"))},
	} {
		if got, e := tree.Add(k.n, k.p, k.m); e != api.OK || show(got) != show(k.want) {
			t.Errorf("%s, %v: got %s, %d, want %s", show(k.n), k.p, show(got), e, show(k.want))
		}
	}
}

// P5.2: which error is told, first the root's, then that of the parent's path, of a leaf, of the place; nothing else is told with it.
func TestAddErrors(t *testing.T) {
	for _, x := range []struct {
		n api.Node
		p []int
		e api.Errno
	}{
		{sample(), nil, api.ErrRoot},
		{sample(), path(), api.ErrRoot},
		{sample(), path(1, 0)[:0], api.ErrRoot},
		{leaf("a"), nil, api.ErrRoot},
		{odd(), nil, api.ErrRoot},
		{elem(), nil, api.ErrRoot},

		{sample(), path(4, 0), api.ErrPath},
		{sample(), path(-1, 0), api.ErrPath},
		{sample(), path(math.MaxInt, 0), api.ErrPath},
		{sample(), path(math.MinInt, 0), api.ErrPath},
		{sample(), path(1<<32, 0), api.ErrPath},
		{sample(), path(2, 0, 0), api.ErrPath},
		{sample(), path(1, 3, 0), api.ErrPath},
		{sample(), path(1, -1, 0), api.ErrPath},
		{sample(), path(3, 0, 0, 1, 0), api.ErrPath},
		{sample(), path(4, -1), api.ErrPath},
		{sample(), path(4, 9), api.ErrPath},
		{sample(), path(-1, -1), api.ErrPath},
		{sample(), path(0, 0, 0), api.ErrPath},
		{sample(), path(0, 0, 9), api.ErrPath},
		{sample(), path(0, 0, -1), api.ErrPath},
		{sample(), path(1, 0, 0, 0), api.ErrPath},
		{leaf("a"), path(0, 0), api.ErrPath},
		{leaf("a"), path(-1, 0), api.ErrPath},
		{elem(), path(0, 0), api.ErrPath},
		{elem(), path(0, -1), api.ErrPath},

		{sample(), path(0, 0), api.ErrLeaf},
		{sample(), path(0, 1), api.ErrLeaf},
		{sample(), path(0, 9), api.ErrLeaf},
		{sample(), path(0, -1), api.ErrLeaf},
		{sample(), path(0, math.MaxInt), api.ErrLeaf},
		{sample(), path(0, math.MinInt), api.ErrLeaf},
		{sample(), path(1, 2, 0, 0), api.ErrLeaf},
		{sample(), path(1, 2, 0, -1), api.ErrLeaf},
		{sample(), path(3, 0, 0, 0, 0), api.ErrLeaf},
		{leaf("a"), path(0), api.ErrLeaf},
		{leaf(""), path(0), api.ErrLeaf},
		{leaf("a"), path(-1), api.ErrLeaf},
		{leaf("a"), path(1), api.ErrLeaf},
		{odd(), path(0, 0), api.ErrLeaf},
		{odd(), path(0, 2), api.ErrLeaf},
		{odd(), path(0, 3), api.ErrLeaf},

		{sample(), path(5), api.ErrPos},
		{sample(), path(-1), api.ErrPos},
		{sample(), path(math.MaxInt), api.ErrPos},
		{sample(), path(math.MinInt), api.ErrPos},
		{sample(), path(1 << 32), api.ErrPos},
		{sample(), path(1, 4), api.ErrPos},
		{sample(), path(1, -1), api.ErrPos},
		{sample(), path(2, 1), api.ErrPos},
		{sample(), path(2, -1), api.ErrPos},
		{sample(), path(3, 0, 0, 2), api.ErrPos},
		{elem(), path(1), api.ErrPos},
		{elem(), path(-1), api.ErrPos},
	} {
		got, e := tree.Add(x.n, x.p, leaf("x"))
		if e != x.e {
			t.Errorf("%s, %v: got %d, want %d", show(x.n), x.p, e, x.e)
		}
		wantNothing(t, "add", e, got)
	}
}

// P5.2: the tree without a node, and that node.
func TestCut(t *testing.T) {
	a, b, c := leaf("a"), elem(leaf("b"), elem(leaf("c"))), leaf("c", "d", "1")
	for _, x := range []struct {
		n       api.Node
		p       []int
		rest, m api.Node
	}{
		{elem(leaf("a"), leaf("b")), path(0), elem(leaf("b")), leaf("a")},
		{elem(leaf("a"), leaf("b")), path(1), elem(leaf("a")), leaf("b")},
		{elem(leaf("a")), path(0), elem(), leaf("a")},
		{elem(elem()), path(0), elem(), elem()},
		{typed("p", a, b, c), path(0), typed("p", b, c), a},
		{typed("p", a, b, c), path(1), typed("p", a, c), b},
		{typed("p", a, b, c), path(2), typed("p", a, b), c},
		{typed("p", a, b, c), path(1, 0), typed("p", a, elem(elem(leaf("c"))), c), leaf("b")},
		{typed("p", a, b, c), path(1, 1), typed("p", a, elem(leaf("b")), c), elem(leaf("c"))},
		{typed("p", a, b, c), path(1, 1, 0), typed("p", a, elem(leaf("b"), elem()), c), leaf("c")},
		{typed("p", a, a, a), path(1), typed("p", a, a), a},
		{elem(sample(), sample()), path(1), elem(sample()), sample()},
	} {
		rest, m, e := tree.Cut(x.n, x.p)
		if e != api.OK || show(rest) != show(x.rest) || show(m) != show(x.m) {
			t.Errorf("%s, %v: got %s, %s, %d, want %s, %s", show(x.n), x.p, show(rest), show(m), e, show(x.rest), show(x.m))
		}
	}
}

// P5.2: the root is not cut out, nor what is not there; nothing else is told then.
func TestCutErrors(t *testing.T) {
	for _, n := range []api.Node{sample(), {}, leaf("a"), odd()} {
		for _, p := range [][]int{nil, path(), path(0)[:0]} {
			rest, m, e := tree.Cut(n, p)
			if e != api.ErrRoot {
				t.Errorf("%s: got %d", show(n), e)
			}
			wantNothing(t, "root", e, rest, m)
		}
	}
	for _, p := range absent() {
		rest, m, e := tree.Cut(sample(), p)
		if e != api.ErrPath {
			t.Errorf("%.20v: got %d", p, e)
		}
		wantNothing(t, "cut", e, rest, m)
	}
	for _, n := range []api.Node{{}, leaf("abc")} {
		for _, p := range [][]int{path(0), path(-1), path(1), path(0, 0)} {
			rest, m, e := tree.Cut(n, p)
			if e != api.ErrPath {
				t.Errorf("%s, %v: got %d", show(n), p, e)
			}
			wantNothing(t, "alone", e, rest, m)
		}
	}
}

// addError is what the chapter's words say, of a tree's rows.
func addError(l []row, p []int) api.Errno {
	if len(p) == 0 {
		return api.ErrRoot
	}
	up, last := p[:len(p)-1], p[len(p)-1]
	at, is := rowAt(l, up)
	switch {
	case !is:
		return api.ErrPath
	case at.face[:4] == "true":
		return api.ErrLeaf
	case last < 0 || last > kidsAt(l, up):
		return api.ErrPos
	}
	return api.OK
}

// P5.2: of all small trees, at all paths near them, what the rows say.
func TestAddAll(t *testing.T) {
	m := typed("m", leaf("x"), elem(leaf("y")))
	for _, n := range trees(4, true) {
		l := rows(n)
		for _, p := range places(4, 4) {
			got, e := tree.Add(n, p, m)
			if want := addError(l, p); e != want {
				t.Fatalf("%s, %v: got %d, want %d", show(n), p, e, want)
			}
			if e != api.OK {
				wantNothing(t, show(n), e, got)
				continue
			}
			want := written(sorted(slices.Concat(shifted(l, p, 1), under(rows(m), p))))
			if written(rows(got)) != want {
				t.Fatalf("%s, %v: got %s, want\n%s", show(n), p, show(got), want)
			}
		}
	}
}

// cutError is what the chapter's words say, of a tree's rows.
func cutError(l []row, p []int) api.Errno {
	if len(p) == 0 {
		return api.ErrRoot
	}
	if _, is := rowAt(l, p); !is {
		return api.ErrPath
	}
	return api.OK
}

// P5.2: of all small trees, at all paths near them, what the rows say.
func TestCutAll(t *testing.T) {
	for _, n := range trees(4, true) {
		l := rows(n)
		for _, p := range places(4, 3) {
			rest, m, e := tree.Cut(n, p)
			if want := cutError(l, p); e != want {
				t.Fatalf("%s, %v: got %d, want %d", show(n), p, e, want)
			}
			if e != api.OK {
				wantNothing(t, show(n), e, rest, m)
				continue
			}
			if want := written(within(l, p)); written(rows(m)) != want {
				t.Fatalf("%s, %v: got %s, want\n%s", show(n), p, show(m), want)
			}
			if want := written(shifted(without(l, p), p, -1)); written(rows(rest)) != want {
				t.Fatalf("%s, %v: left: got %s, want\n%s", show(n), p, show(rest), want)
			}
		}
	}
}

// P5.2: what may not be is put in, and cut out, as it is, and what stands around it stays.
func TestAddAndCutWhatMayNotBe(t *testing.T) {
	got, e := tree.Add(odd(), path(1), odd())
	want := odd()
	want.Kids = []api.Node{odd().Kids[0], odd(), odd().Kids[1]}
	if e != api.OK || show(got) != show(want) {
		t.Errorf("got %s, %d", show(got), e)
	}
	got, e = tree.Add(odd(), path(0, 1, 1), leaf("x"))
	want = odd()
	want.Kids[0].Kids[1].Kids = []api.Node{leaf("d"), leaf("x")}
	if e != api.OK || show(got) != show(want) {
		t.Errorf("got %s, %d", show(got), e)
	}
	rest, m, e := tree.Cut(odd(), path(0, 1))
	want = odd()
	want.Kids[0].Kids = want.Kids[0].Kids[:1]
	if e != api.OK || show(rest) != show(want) || show(m) != show(odd().Kids[0].Kids[1]) {
		t.Errorf("got %s, %s, %d", show(rest), show(m), e)
	}
}

// P5.2: at the end of what may be: 2^16 levels, and many Kids.
func TestAddAndCutGreat(t *testing.T) {
	deep := slices.Repeat(path(0), 1<<16-1)
	full, empty := chain(1<<16-1, leaf("a")), chain(1<<16-2, elem())
	if got, e := tree.Add(empty, deep, leaf("a")); e != api.OK || show(got) != show(full) {
		t.Errorf("add: got %d", e)
	}
	if rest, m, e := tree.Cut(full, deep); e != api.OK || show(rest) != show(empty) || show(m) != show(leaf("a")) {
		t.Errorf("cut: got %d", e)
	}
	if rest, m, e := tree.Cut(full, path(0)); e != api.OK || show(rest) != show(elem()) || show(m) != show(chain(1<<16-2, leaf("a"))) {
		t.Errorf("cut of much: got %d", e)
	}
	n := wide(1 << 16)
	for _, i := range []int{0, 1, 1 << 15, 1 << 16} {
		got, e := tree.Add(n, path(i), leaf("x"))
		if want := elem(slices.Insert(slices.Clone(n.Kids), i, leaf("x"))...); e != api.OK || show(got) != show(want) {
			t.Errorf("%d: add: got %d", i, e)
		}
		rest, m, e := tree.Cut(got, path(i))
		if e != api.OK || show(rest) != show(n) || show(m) != show(leaf("x")) {
			t.Errorf("%d: cut: got %d", i, e)
		}
	}
	if _, e := tree.Add(n, path(1<<16+1), leaf("x")); e != api.ErrPos {
		t.Errorf("got %d", e)
	}
}

// R2, P5.2: what is told shares nothing with what was handed in, nor do two lists of it with one another, nor the tree with what was cut out of it.
func TestAddAndCutNew(t *testing.T) {
	for i, n := range newOf() {
		n, m := roomy(n), roomy(typed("m", leaf("x", "a", "1"), elem()))
		l := rows(n)
		name := strconv.Itoa(i)
		for _, r := range l {
			for _, p := range [][]int{r.p, slices.Concat(r.p, path(0)), slices.Concat(r.p, path(kidsAt(l, r.p)))} {
				got, _ := tree.Add(n, p, m)
				wantNew(t, name, []api.Node{n, m}, got)
				self, _ := tree.Add(n, p, n)
				wantNew(t, name, []api.Node{n}, self)
			}
			rest, m, _ := tree.Cut(n, r.p)
			wantNew(t, name, []api.Node{n}, rest, m)
		}
	}
}
