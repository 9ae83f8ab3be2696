package op_test

import (
	"slices"
	"strings"
	"testing"

	"redline/api"
	"redline/back"
	"redline/op"
)

// text is a leaf with so many runes.
func text(many int) api.Node { return leaf(strings.Repeat("a", many)) }

// wide is an element with so many empty leaves.
func wide(many int) api.Node {
	n := api.Node{Kids: make([]api.Node, many)}
	for i := range n.Kids {
		n.Kids[i].Leaf = true
	}
	return n
}

// P12.1: a tree as great as one may be is changed, also if it is greater then; one that is greater is told ahead of all else.
func TestGreatTrees(t *testing.T) {
	full := elem(leaf("b"), text(api.MaxCap-4))
	s := sel(pt(0, 0), pt(0, 0))
	wantDone(t, full, s, put(0, "", 0), full, s)
	wantDone(t, full, none(), put(1, "c", 0), elem(leaf("bc"), text(api.MaxCap-4)), none())
	wantDone(t, full, s, insert(elem(), 2), elem(leaf("b"), text(api.MaxCap-4), elem()), s)
	wantDone(t, full, s, split(2, nil, 1), elem(leaf("b"), leaf("aa"), text(api.MaxCap-6)), s)
	wantDone(t, full, s, choose(s, none()), full, none())
	for _, n := range []api.Node{elem(leaf("b"), text(api.MaxCap-3)), wide(api.MaxCap), text(api.MaxCap), elem(wide(api.MaxCap - 1)), {Leaf: true, Text: make([]rune, api.MaxCap), Props: many(17)}} {
		for _, o := range []api.Op{{}, take(0, "b", 0), remove(leaf(""), 0), choose(none(), none())} {
			wantWrong(t, n, none(), o, api.ErrLong)
			wantWrong(t, n, sel(pt(9, 9), pt(9, 9)), o, api.ErrLong)
		}
	}
}

// P12.3: the inverse of what made a tree too great can not be done on that.
func TestGreatUndone(t *testing.T) {
	n := elem(text(api.MaxCap - 2))
	for _, o := range []api.Op{put(0, "c", 0), insert(elem(), 1), split(0, nil, 0)} {
		m, s, e := op.Apply(n, none(), o)
		if e != api.OK {
			t.Fatalf("kind %d: got %d", o.Kind, e)
		}
		i, _ := back.Inverse(o)
		wantWrong(t, m, s, i, api.ErrLong)
	}
}

// P12.1: a node as great as a tree may be is put in, a greater one is not; a text is put in, however many runes it has.
func TestGreatThings(t *testing.T) {
	s, n := sel(pt(0, 0), pt(1, 0)), elem(leaf("ab"), elem())
	for _, x := range []api.Node{text(api.MaxCap - 1), wide(api.MaxCap - 1)} {
		wantDone(t, n, s, insert(x, 1, 0), elem(leaf("ab"), elem(x)), s)
	}
	for _, x := range []api.Node{text(api.MaxCap), wide(api.MaxCap)} {
		wantWrong(t, n, s, insert(x, 1, 0), api.ErrLong)
		wantWrong(t, n, s, insert(x), api.ErrLong)
		wantWrong(t, n, s, remove(x, 0), api.ErrSame)
	}
	long := strings.Repeat("x", api.MaxCap+1)
	wantDone(t, n, s, put(2, long, 0), elem(leaf("ab"+long), elem()), s)
	wantWrong(t, n, s, put(1, long, 0), api.ErrSel)
	wantWrong(t, n, s, take(0, long, 0), api.ErrSame)
}

// P12.1, P12.2: places far behind are places as others are, with selections there.
func TestGreatNumbers(t *testing.T) {
	const far = api.MaxCap - 3
	n := elem(text(far))
	s := sel(pt(far-1, 0), pt(0, 0))
	wantDone(t, n, s, put(far, "b", 0), elem(leaf(strings.Repeat("a", far)+"b")), s)
	wantDone(t, n, s, split(far, nil, 0), elem(text(far), text(0)), s)
	wantDone(t, n, s, take(far-1, "", 0), n, s)
	wantWrong(t, n, s, take(far-1, "a", 0), api.ErrSel)
	wantWrong(t, n, sel(pt(0, 0), pt(far, 0)), split(far, nil, 0), api.ErrSel)
	n = elem(text(far), text(0))
	wantDone(t, n, s, merge(far, nil, 1), elem(text(far)), s)
	wantWrong(t, n, sel(pt(0, 0), pt(far, 0)), merge(far, nil, 1), api.ErrSel)
	wantWrong(t, n, s, merge(far-1, nil, 1), api.ErrPos)

	n = wide(api.MaxCap - 1)
	last := api.MaxCap - 2
	s = sel(pt(0, last), pt(0, last-1))
	wantDone(t, n, s, insert(leaf(""), last+1), wide(api.MaxCap), s)
	wantDone(t, n, s, move(path(last), path(last)), n, s)
	wantDone(t, n, none(), split(0, nil, last), wide(api.MaxCap), none())
	wantDone(t, n, none(), merge(0, nil, last), wide(last), none())
	wantDone(t, n, none(), move(path(0), path(last)), n, none())
	wantWrong(t, n, s, insert(leaf(""), last), api.ErrSel)
	wantWrong(t, n, s, insert(leaf(""), last+2), api.ErrPos)
	wantWrong(t, n, s, remove(leaf(""), last), api.ErrSel)
	wantWrong(t, n, s, remove(leaf(""), last+1), api.ErrPath)
}

// P12.1, P12.2: trees and paths as deep as they may be.
func TestDeep(t *testing.T) {
	const deep = 1 << 16
	down := make([]int, deep-1)
	tree := func(kids ...api.Node) api.Node {
		n := elem(kids...)
		for range down {
			n = elem(n)
		}
		return n
	}
	at := func(i int) []int { return slices.Concat(down, path(i)) }
	n := tree(leaf("ab"), leaf("cd"))
	s := sel(pt(1, at(0)...), pt(0, at(0)...))
	wantDone(t, n, s, insert(leaf("x"), at(1)...), tree(leaf("ab"), leaf("x"), leaf("cd")), s)
	wantDone(t, n, s, remove(leaf("cd"), at(1)...), tree(leaf("ab")), s)
	wantDone(t, n, s, merge(2, nil, at(1)...), tree(leaf("abcd")), s)
	wantDone(t, n, s, split(1, nil, at(1)...), tree(leaf("ab"), leaf("c"), leaf("d")), s)
	wantDone(t, n, s, set(nil, props("a", "1"), at(0)...), tree(leaf("ab", "a", "1"), leaf("cd")), s)
	wantDone(t, n, s, put(2, "x", at(0)...), tree(leaf("abx"), leaf("cd")), s)
	wantDone(t, n, s, take(0, "c", at(1)...), tree(leaf("ab"), leaf("d")), s)
	wantDone(t, n, s, choose(s, sel(pt(2, at(1)...), pt(2, at(1)...))), n, sel(pt(2, at(1)...), pt(2, at(1)...)))
	up := tree(leaf("ab"))
	up.Kids = append(up.Kids, leaf("cd"))
	wantDone(t, n, s, move(at(1), path(1)), up, s)
	wantDone(t, up, s, move(path(1), at(1)), n, s)
	wantWrong(t, n, s, move(at(0), path(0)), api.ErrSel)
	wantWrong(t, n, s, put(1, "x", at(0)...), api.ErrSel)
	wantWrong(t, n, s, put(0, "x", at(2)...), api.ErrPath)
	wantDone(t, elem(), none(), insert(n, 0), elem(n), none())
	wantDone(t, elem(n), none(), remove(n, 0), elem(), none())
}
