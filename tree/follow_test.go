package tree_test

import (
	"slices"
	"testing"

	"redline/api"
	"redline/trail"
	"redline/tree"
)

// P5.4: what was added is cut out again.
func TestCutAgain(t *testing.T) {
	for _, m := range []api.Node{{}, leaf("x"), typed("m", leaf("x"), elem(leaf("y")))} {
		for _, n := range append(trees(4, false), sample()) {
			for _, p := range places(3, 4) {
				in, e := tree.Add(n, p, m)
				if e != api.OK {
					continue
				}
				at, e := tree.Get(in, p)
				if e != api.OK || show(at) != show(m) {
					t.Fatalf("%s, %v: there stands %s, %d", show(n), p, show(at), e)
				}
				rest, out, e := tree.Cut(in, p)
				if e != api.OK || show(rest) != show(n) || show(out) != show(m) {
					t.Fatalf("%s, %v: got %s, %s, %d", show(n), p, show(rest), show(out), e)
				}
			}
		}
	}
}

// P5.4: what was cut out of an element is added again, and another one that is added there stands as if it had been put there.
func TestAddAgain(t *testing.T) {
	x := typed("x", leaf("y"))
	for _, n := range append(trees(5, false), sample()) {
		for _, p := range tree.Paths(n)[1:] {
			rest, m, e := tree.Cut(n, p)
			if e != api.OK {
				t.Fatalf("%s, %v: got %d", show(n), p, e)
			}
			if at, _ := tree.Get(n, p); show(at) != show(m) {
				t.Fatalf("%s, %v: %s was cut out", show(n), p, show(m))
			}
			if got, e := tree.Add(rest, p, m); e != api.OK || show(got) != show(n) {
				t.Fatalf("%s, %v: got %s, %d", show(n), p, show(got), e)
			}
			added, _ := tree.Add(rest, p, x)
			if put, e := tree.Put(n, p, x); e != api.OK || show(put) != show(added) {
				t.Fatalf("%s, %v: got %s, %d, want %s", show(n), p, show(put), e, show(added))
			}
		}
	}
}

// P5.4: paths rise; at each of them there is a node, and at those of the leaves just the leaves.
func TestPathsRise(t *testing.T) {
	for _, n := range append(trees(5, true), sample(), odd(), chain(50, leaf("a")), wide(50)) {
		all, leaves := tree.Paths(n), tree.Leaves(n)
		for _, l := range [][][]int{all, leaves} {
			for i := 1; i < len(l); i++ {
				if trail.Compare(l[i-1], l[i]) != -1 {
					t.Fatalf("%s: %v does not stand ahead of %v", show(n), l[i-1], l[i])
				}
			}
		}
		for _, p := range all {
			at, e := tree.Get(n, p)
			is := slices.ContainsFunc(leaves, func(q []int) bool { return trail.Same(p, q) })
			if e != api.OK || at.Leaf != is {
				t.Fatalf("%s, %v: got %s, %d", show(n), p, show(at), e)
			}
		}
	}
}

// calls are all calls that are handed a tree, a path, and another tree; each tells all trees of its answer.
func calls() map[string]func(n api.Node, p []int, m api.Node) []api.Node {
	return map[string]func(n api.Node, p []int, m api.Node) []api.Node{
		"get": func(n api.Node, p []int, _ api.Node) []api.Node {
			at, _ := tree.Get(n, p)
			return []api.Node{at}
		},
		"put": func(n api.Node, p []int, m api.Node) []api.Node {
			out, _ := tree.Put(n, p, m)
			return []api.Node{out}
		},
		"add": func(n api.Node, p []int, m api.Node) []api.Node {
			out, _ := tree.Add(n, p, m)
			return []api.Node{out}
		},
		"cut": func(n api.Node, p []int, _ api.Node) []api.Node {
			rest, m, _ := tree.Cut(n, p)
			return []api.Node{rest, m}
		},
	}
}

func showAll(l []api.Node) string {
	out := ""
	for _, n := range l {
		out += show(n) + "\n"
	}
	return out
}

// R2: no call changes what it is handed, nor what stands behind its ends, whatever it answers.
func TestNothingIsChanged(t *testing.T) {
	for name, call := range calls() {
		for _, x := range []api.Node{sample(), odd(), leaf("a", "b", "1"), {}} {
			for _, p := range append(places(3, 4), path(3, 0, 0, 0), path(3, 0, 0, 1)) {
				n, m, q := roomy(x), roomy(typed("m", leaf("x"))), withRoom(p, 77)
				before := show(whole(n)) + show(whole(m))
				call(n, q, m)
				if show(whole(n))+show(whole(m)) != before {
					t.Fatalf("%s: %s, %v: a tree is changed", name, show(x), p)
				}
				if !slices.Equal(q[:cap(q)][:len(p)+3], slices.Concat(p, path(77, 77, 77))) {
					t.Fatalf("%s: %s, %v: the path is changed: %v", name, show(x), p, q[:cap(q)])
				}
			}
		}
	}
}

// R2: what was told stays, whatever is done behind the call to what was handed in, to what is told of it, and to what was told another time.
func TestWhatWasToldStays(t *testing.T) {
	for name, call := range calls() {
		for _, x := range []api.Node{sample(), odd(), leaf("a", "b", "1"), {}} {
			for _, p := range append(places(2, 4), path(1, 2, 0), path(3, 0, 0, 0), path(3, 0, 0, 1)) {
				n, m, q := roomy(x), roomy(typed("m", leaf("x"))), slices.Clone(p)
				got := call(n, q, m)
				want := showAll(got)
				if again := call(n, q, m); showAll(again) != want {
					t.Fatalf("%s: %s, %v: another time %s", name, show(x), p, showAll(again))
				} else {
					spoilAll(again)
				}
				for _, next := range calls() {
					spoilAll(next(got[0], path(0), m))
				}
				if show(n) != show(x) {
					t.Fatalf("%s: %s, %v: the tree is changed with what was told of it", name, show(x), p)
				}
				spoil(n)
				spoil(m)
				fill(q, -99)
				if showAll(got) != want {
					t.Fatalf("%s: %s, %v: %s has become %s", name, show(x), p, want, showAll(got))
				}
			}
		}
	}
}

func spoilAll(l []api.Node) {
	for _, n := range l {
		spoil(n)
	}
}
