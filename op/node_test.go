package op_test

import (
	"testing"

	"redline/api"
)

// P12.2: a node is put in ahead of the one that stood there, or behind the last one, at whatever depth.
func TestInsertNode(t *testing.T) {
	x := leaf("x", "bold", "1")
	wantAll(t, []done{
		{`[]`, insert(x, 0), `[{bold:1}"x"]`},
		{`[]`, insert(api.Node{}, 0), `[[]]`},
		{`["a""b""c"]`, insert(x, 0), `[{bold:1}"x""a""b""c"]`},
		{`["a""b""c"]`, insert(x, 1), `["a"{bold:1}"x""b""c"]`},
		{`["a""b""c"]`, insert(x, 2), `["a""b"{bold:1}"x""c"]`},
		{`["a""b""c"]`, insert(x, 3), `["a""b""c"{bold:1}"x"]`},
		{`["a"{type:p}["b"]"c"]`, insert(tr(`{type:q}["y"["z"]]`), 1), `["a"{type:q}["y"["z"]]{type:p}["b"]"c"]`},
		{`["a"{type:p}["b"]"c"]`, insert(leaf(""), 1, 0), `["a"{type:p}["""b"]"c"]`},
		{`["a"{type:p}["b"]"c"]`, insert(leaf(""), 1, 1), `["a"{type:p}["b"""]"c"]`},
		{`[[[["a"]]]]`, insert(x, 0, 0, 0, 0), `[[[[{bold:1}"x""a"]]]]`},
		{`[[[["a"]]]]`, insert(x, 0, 0, 1), `[[[["a"]{bold:1}"x"]]]`},
		{four, insert(tr(four), 3, 0), `["ab"{bold:1}"cd"{type:p}["e""f"][` + four + `]]`},
	})
}

// unfit are nodes that may not be, with node.Check's errors.
func unfit() map[api.Errno][]api.Node {
	return map[api.Errno][]api.Node{
		api.ErrArg:  {leaf("x", "b", "", "a", ""), elem(leaf("a", "a", "1", "a", "2")), {Props: props("type", "p", "bold", "1")}},
		api.ErrLong: {{Props: many(17)}, elem(elem(api.Node{Leaf: true, Props: many(17)}))},
		api.ErrKey:  {leaf("x", "", ""), leaf("x", "A", ""), leaf("x", "a", "A"), {Props: make([]api.Prop, 1)}},
		api.ErrRune: {{Leaf: true, Text: []rune{-1}}, elem(leaf("a"), api.Node{Leaf: true, Text: []rune{'a', 0xd800}}), {Leaf: true, Text: []rune{0x110000}}},
		api.ErrLeaf: {{Text: []rune("a")}, {Leaf: true, Kids: []api.Node{{}}}, elem(elem(leaf("a"), api.Node{Text: []rune{-1}}))},
	}
}

// P12.1: a node that may not be is not put in, wherever it should go.
func TestInsertNodeUnfit(t *testing.T) {
	for e, all := range unfit() {
		for _, x := range all {
			for _, q := range [][]int{path(0), path(4), path(2, 1), nil, path(9), path(9, 9), path(0, 0), path(-1)} {
				wantWrong(t, tr(four), none(), insert(x, q...), e)
			}
		}
	}
}

// P12.1: no node is put in as the root, below what is no node, into a leaf, or at a place that there is not.
func TestInsertNodeErrors(t *testing.T) {
	x := leaf("x")
	wantAllWrong(t, []refused{
		{four, insert(x), api.ErrRoot},
		{four, insert(x, path()...), api.ErrRoot},
		{`[]`, insert(x), api.ErrRoot},
		{four, insert(x, 4, 0), api.ErrPath},
		{four, insert(x, -1, 0), api.ErrPath},
		{four, insert(x, 4, -1), api.ErrPath},
		{four, insert(x, 0, 0, 0), api.ErrPath},
		{four, insert(x, 2, 2, 0), api.ErrPath},
		{`[]`, insert(x, 0, 0), api.ErrPath},
		{four, insert(x, 0, 0), api.ErrLeaf},
		{four, insert(x, 0, 2), api.ErrLeaf},
		{four, insert(x, 0, -1), api.ErrLeaf},
		{four, insert(x, 2, 1, 0), api.ErrLeaf},
		{four, insert(x, 5), api.ErrPos},
		{four, insert(x, 2, 3), api.ErrPos},
		{four, insert(x, 3, 1), api.ErrPos},
		{`[]`, insert(x, 1), api.ErrPos},
	})
	for _, i := range odd() {
		wantAllWrong(t, []refused{
			{four, insert(x, i), api.ErrPos},
			{four, insert(x, 2, i), api.ErrPos},
			{four, insert(x, 1, i), api.ErrLeaf},
			{four, insert(x, i, 0), api.ErrPath},
			{four, insert(x, 2, i, 0), api.ErrPath},
			{four, insert(x, i, i), api.ErrPath},
		})
	}
}

// P12.2: the first one, the last one, one between, the only one, at whatever depth.
func TestRemoveNode(t *testing.T) {
	wantAll(t, []done{
		{`["a"]`, remove(leaf("a"), 0), `[]`},
		{`[[]]`, remove(elem(), 0), `[]`},
		{`[[]]`, remove(api.Node{Props: []api.Prop{}, Text: []rune{}}, 0), `[]`},
		{`["a""b""c"]`, remove(leaf("a"), 0), `["b""c"]`},
		{`["a""b""c"]`, remove(leaf("b"), 1), `["a""c"]`},
		{`["a""b""c"]`, remove(leaf("c"), 2), `["a""b"]`},
		{four, remove(leaf("cd", "bold", "1"), 1), `["ab"{type:p}["e""f"][]]`},
		{four, remove(tr(`{type:p}["e""f"]`), 2), `["ab"{bold:1}"cd"[]]`},
		{four, remove(leaf("e"), 2, 0), `["ab"{bold:1}"cd"{type:p}["f"][]]`},
		{four, remove(leaf("f"), 2, 1), `["ab"{bold:1}"cd"{type:p}["e"][]]`},
		{four, remove(elem(), 3), `["ab"{bold:1}"cd"{type:p}["e""f"]]`},
		{`[[[["a"]]]]`, remove(leaf("a"), 0, 0, 0, 0), `[[[[]]]]`},
		{`[[[["a"]]]]`, remove(tr(`[[["a"]]]`), 0), `[]`},
	})
}

// P12.1: what is taken out is to be just what stands there.
func TestRemoveNodeSame(t *testing.T) {
	for _, x := range []struct {
		n string
		l []api.Node
	}{
		{`"ab"`, []api.Node{{}, leaf("a"), leaf("b"), leaf("abc"), leaf("ba"), leaf("ab", "a", ""), elem(leaf("ab")), {Text: []rune("ab")}}},
		{`{a:1,b:2}"x"`, []api.Node{leaf("x"), leaf("x", "a", "1"), leaf("x", "b", "2", "a", "1"), leaf("x", "a", "1", "b", "3"), leaf("x", "a", "1", "c", "2")}},
		{`{type:p}["a"["b"]]`, []api.Node{{}, tr(`["a"["b"]]`), tr(`{type:q}["a"["b"]]`), tr(`{type:p}["a"]`), tr(`{type:p}["a"["c"]]`), tr(`{type:p}["a"["b"]""]`), tr(`{type:p}[["b"]"a"]`), tr(`{type:p}["a"[["b"]]]`), tr(`{type:p}["a"[{x:}"b"]]`)}},
		{`[]`, []api.Node{leaf(""), elem(elem()), tr(`{a:}[]`), {Text: []rune("a")}, {Props: make([]api.Prop, 1)}}},
		{`""`, []api.Node{{}, leaf("a"), {Leaf: true, Kids: []api.Node{{}}}}},
	} {
		for _, m := range x.l {
			wantWrong(t, elem(tr(x.n)), none(), remove(m, 0), api.ErrSame)
			wantWrong(t, elem(leaf("z"), elem(leaf("y"), tr(x.n))), none(), remove(m, 1, 1), api.ErrSame)
		}
	}
	// What may not be stands nowhere in the tree.
	for _, all := range unfit() {
		for _, m := range all {
			wantWrong(t, tr(four), none(), remove(m, 0), api.ErrSame)
		}
	}
}

// P12.1: neither the root nor what is no node is taken out, whatever it should be.
func TestRemoveNodeErrors(t *testing.T) {
	for _, m := range []api.Node{{}, leaf("ab"), tr(four)} {
		wantWrong(t, tr(four), none(), remove(m), api.ErrRoot)
		wantWrong(t, tr(four), none(), remove(m, path()...), api.ErrRoot)
		for _, q := range nowhere() {
			wantWrong(t, tr(four), none(), remove(m, q...), api.ErrPath)
		}
	}
}

// P12.2: a node goes to a place ahead of it, behind it, further up, further down, or to where it stood; To is a path of what is left without it.
func TestMoveNode(t *testing.T) {
	wantAll(t, []done{
		// Beside where it stood.
		{`["a""b""c"]`, move(path(0), path(1)), `["b""a""c"]`},
		{`["a""b""c"]`, move(path(0), path(2)), `["b""c""a"]`},
		{`["a""b""c"]`, move(path(1), path(0)), `["b""a""c"]`},
		{`["a""b""c"]`, move(path(2), path(0)), `["c""a""b"]`},
		{`["a""b""c"]`, move(path(2), path(1)), `["a""c""b"]`},
		// To where it stood.
		{`["a""b""c"]`, move(path(0), path(0)), `["a""b""c"]`},
		{`["a""b""c"]`, move(path(1), path(1)), `["a""b""c"]`},
		{`["a""b""c"]`, move(path(2), path(2)), `["a""b""c"]`},
		{`["a"]`, move(path(0), path(0)), `["a"]`},
		{four, move(path(2), path(2)), four},
		{four, move(path(2, 1), path(2, 1)), four},
		// Further up.
		{`["a"["b""c"]"d"]`, move(path(1, 0), path(0)), `["b""a"["c"]"d"]`},
		{`["a"["b""c"]"d"]`, move(path(1, 0), path(1)), `["a""b"["c"]"d"]`},
		{`["a"["b""c"]"d"]`, move(path(1, 1), path(2)), `["a"["b"]"c""d"]`},
		{`["a"["b""c"]"d"]`, move(path(1, 1), path(3)), `["a"["b"]"d""c"]`},
		{`["a"[[{type:p}["b"]]]]`, move(path(1, 0, 0), path(0)), `[{type:p}["b"]"a"[[]]]`},
		// Further down: the numbers behind it are those without it.
		{`["a"["b"]]`, move(path(0), path(0, 0)), `[["a""b"]]`},
		{`["a"["b"]]`, move(path(0), path(0, 1)), `[["b""a"]]`},
		{`[["b"]"a"]`, move(path(1), path(0, 0)), `[["a""b"]]`},
		{`[["b"]"a"]`, move(path(1), path(0, 1)), `[["b""a"]]`},
		{`["a"["b"["c"]]]`, move(path(0), path(0, 1, 1)), `[["b"["c""a"]]]`},
		{`["a"["b"["c"]]]`, move(path(1, 0), path(1, 0, 0)), `["a"[["b""c"]]]`},
		// Into an element beside it whose number is its own, when it is gone.
		{`[["a"]["b"]]`, move(path(0), path(0, 0)), `[[["a"]"b"]]`},
		{`[["a"]["b"]]`, move(path(0), path(0, 1)), `[["b"["a"]]]`},
		// From one element into another one, props and all.
		{`[{a:1}["x"]{b:2}[{c:3}"y""z"]]`, move(path(1, 0), path(0, 1)), `[{a:1}["x"{c:3}"y"]{b:2}["z"]]`},
		{`[{a:1}["x"]{b:2}[{c:3}"y""z"]]`, move(path(0), path(1)), `[{b:2}[{c:3}"y""z"]{a:1}["x"]]`},
	})
}

// P12.1: the root is not moved, nor is anything moved to it, to what is gone with it, into a leaf, or to a place that there is not without it; what is wrong with Path comes first.
func TestMoveNodeErrors(t *testing.T) {
	wantAllWrong(t, []refused{
		{four, move(nil, nil), api.ErrRoot},
		{four, move(nil, path(0)), api.ErrRoot},
		{four, move(nil, path(9, 9)), api.ErrRoot},
		{four, move(path(0), nil), api.ErrRoot},
		{four, move(path(2, 0), path()), api.ErrRoot},
		{four, move(path(9), nil), api.ErrPath},
		{four, move(path(2), path(4, 0)), api.ErrPath},
		{four, move(path(2), path(3, 0)), api.ErrPath},
		{four, move(path(0), path(3, 0)), api.ErrPath},
		{four, move(path(2, 1), path(2, 1, 0)), api.ErrPath},
		{`[["a"]]`, move(path(0), path(0, 0)), api.ErrPath},
		{`["b"["a"]]`, move(path(1), path(1, 0)), api.ErrPath},
		{`[["a"]]`, move(path(0, 0), path(0, 0, 0)), api.ErrPath},
		{four, move(path(2), path(0, 0)), api.ErrLeaf},
		{four, move(path(0), path(0, 0)), api.ErrLeaf},
		{four, move(path(0), path(1, 0, 0)), api.ErrLeaf},
		{four, move(path(2), path(1, -1)), api.ErrLeaf},
		{`[["a"]"b"]`, move(path(0), path(0, 0)), api.ErrLeaf},
		{four, move(path(0), path(4)), api.ErrPos},
		{four, move(path(0), path(-1)), api.ErrPos},
		{four, move(path(0), path(1, 3)), api.ErrPos},
		{four, move(path(2, 0), path(2, 2)), api.ErrPos},
		{four, move(path(2, 0), path(5)), api.ErrPos},
		{`["a"]`, move(path(0), path(1)), api.ErrPos},
	})
	for _, q := range nowhere() {
		for _, to := range [][]int{nil, path(0), path(2, 0), path(9, 9)} {
			wantWrong(t, tr(four), none(), move(q, to), api.ErrPath)
		}
	}
	for _, i := range odd() {
		wantAllWrong(t, []refused{
			{four, move(path(0), path(i)), api.ErrPos},
			{four, move(path(0), path(1, i)), api.ErrPos},
			{four, move(path(0), path(0, i)), api.ErrLeaf},
			{four, move(path(0), path(i, 0)), api.ErrPath},
		})
	}
}
