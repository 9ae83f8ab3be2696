package op_test

import (
	"testing"

	"redline/api"
)

// handed is all that a call is handed.
type handed struct {
	n api.Node
	s api.Sel
	o api.Op
}

// wrong is one thing that can be wrong, and the error that is told of it.
type wrong struct {
	make func(*handed)
	e    api.Errno
}

// slot are things of which at most one can be wrong at a time.
type slot []wrong

// common are the slots that all kinds have ahead of their own, in the chapter's order.
func common() []slot {
	return []slot{
		{
			{func(x *handed) { x.n.Props = props("A", "") }, api.ErrKey},
			{func(x *handed) { x.n.Props = props("b", "", "a", "") }, api.ErrArg},
			{func(x *handed) { x.n.Props = many(17) }, api.ErrLong},
		},
		{{func(x *handed) { x.n = leaf("abcdef") }, api.ErrLeaf}},
		{
			{func(x *handed) { x.s = no(pt(1), pt(0)) }, api.ErrArg},
			{func(x *handed) { x.s = sel(pt(0, 9), pt(0)) }, api.ErrPath},
			{func(x *handed) { x.s = sel(pt(0), pt(0, 9)) }, api.ErrLeaf},
			{func(x *handed) { x.s = sel(pt(9, 0), pt(0)) }, api.ErrPos},
		},
		{
			{func(x *handed) { x.o.Kind = 0 }, api.ErrArg},
			{func(x *handed) { x.o.Kind = 10 }, api.ErrArg},
			{another, api.ErrArg},
		},
	}
}

// another gives an operation a field that its kind does not have.
func another(x *handed) {
	if x.o.Kind == api.SetSel {
		x.o.Pos = 1
	} else {
		x.o.From = sel(pt(0, 0), pt(0, 0))
	}
}

// atPath are paths of an operation that may not be, each with its error.
func atPath(e map[api.Errno][]int) slot {
	var out slot
	for _, k := range []api.Errno{api.ErrPath, api.ErrRoot, api.ErrLeaf, api.ErrPos} {
		if p, is := e[k]; is {
			out = append(out, wrong{func(x *handed) { x.o.Path = p }, k})
		}
	}
	return out
}

func atTo(e map[api.Errno][]int) slot {
	var out slot
	for k, p := range e {
		out = append(out, wrong{func(x *handed) { x.o.To = p }, k})
	}
	return out
}

func positions(l ...int) slot {
	var out slot
	for _, i := range l {
		out = append(out, wrong{func(x *handed) { x.o.Pos = i }, api.ErrPos})
	}
	return out
}

func olds(e api.Errno, l []api.Prop) slot {
	return slot{{func(x *handed) { x.o.Old = l }, e}}
}

func news(e api.Errno, l []api.Prop) slot {
	return slot{{func(x *handed) { x.o.New = l }, e}}
}

func texts(e api.Errno, l ...rune) slot {
	return slot{{func(x *handed) { x.o.Text = l }, e}}
}

func selects(s api.Sel) slot {
	return slot{{func(x *handed) { x.s = s }, api.ErrSel}}
}

// base is the tree on which each kind's operation can be done.
func base() api.Node { return tr(`["ab""cd"["e""f"]["g"]]`) }

// own are, of each kind, an operation that can be done on base, and the slots of the kind itself, in the chapter's order.
func own() []struct {
	o     api.Op
	slots []slot
} {
	nodes := slot{
		{func(x *handed) { x.o.Node = api.Node{Leaf: true, Text: []rune{-1}} }, api.ErrRune},
		{func(x *handed) { x.o.Node = api.Node{Text: []rune("a")} }, api.ErrLeaf},
		{func(x *handed) { x.o.Node = leaf("a", "A", "") }, api.ErrKey},
	}
	other := slot{{func(x *handed) { x.o.Node = leaf("z") }, api.ErrSame}}
	intos := slot{
		{func(x *handed) { x.o.Into = no(pt(1), pt(0)) }, api.ErrArg},
		{func(x *handed) { x.o.Into = sel(pt(0, 9), pt(0)) }, api.ErrPath},
		{func(x *handed) { x.o.Into = sel(pt(0), pt(0, 9)) }, api.ErrLeaf},
		{func(x *handed) { x.o.Into = sel(pt(9, 0), pt(0)) }, api.ErrPos},
	}
	froms := slot{{func(x *handed) { x.o.From = sel(pt(1, 0), pt(1, 0)) }, api.ErrSame}}
	bad, bold := props("A", ""), props("bold", "1")
	noNode := map[api.Errno][]int{api.ErrRoot: nil, api.ErrPath: path(9)}
	noText := map[api.Errno][]int{api.ErrPath: path(9), api.ErrLeaf: path(2)}
	return []struct {
		o     api.Op
		slots []slot
	}{
		{insert(leaf("x"), 1), []slot{nodes, atPath(map[api.Errno][]int{api.ErrRoot: nil, api.ErrPath: path(9, -1), api.ErrLeaf: path(0, -1), api.ErrPos: path(5)}), selects(sel(pt(0, 1), pt(0, 0)))}},
		{remove(tr(`["e""f"]`), 2), []slot{atPath(noNode), other, selects(sel(pt(0, 0), pt(0, 3, 0)))}},
		{merge(2, nil, 1), []slot{atPath(map[api.Errno][]int{api.ErrRoot: nil, api.ErrPath: path(9), api.ErrPos: path(0), api.ErrLeaf: path(2)}), positions(1, 3, -1), olds(api.ErrSame, bold), selects(sel(pt(2, 0), pt(0, 0)))}},
		{split(1, nil, 0), []slot{news(api.ErrKey, bad), atPath(noNode), positions(-1, 3), selects(sel(pt(0, 0), pt(1, 0)))}},
		{move(path(0), path(1)), []slot{atPath(noNode), atTo(map[api.Errno][]int{api.ErrRoot: nil, api.ErrPath: path(9, -1), api.ErrLeaf: path(0, -1), api.ErrPos: path(4)}), selects(sel(pt(0, 0), pt(0, 0)))}},
		{set(nil, bold, 2), []slot{atPath(noNode), olds(api.ErrKey, bad), news(api.ErrArg, props("b", "", "a", "")), olds(api.ErrSame, props("a", "1"))}},
		{put(1, "xy", 0), []slot{atPath(noText), texts(api.ErrRune, 'x', -1), positions(-1, 3), selects(sel(pt(1, 0), pt(0, 1)))}},
		{take(0, "a", 0), []slot{atPath(noText), texts(api.ErrRune, 'x', -1), positions(-1, 3), texts(api.ErrSame, 'z'), selects(sel(pt(0, 1), pt(1, 0)))}},
		{choose(none(), sel(pt(0, 0), pt(1, 3, 0))), []slot{froms, intos}},
	}
}

// P12.1: of all that can be wrong at a time, of each kind, what comes first in the chapter's order is told; Apply tells the same.
func TestFirstError(t *testing.T) {
	for _, k := range own() {
		slots := append(common(), k.slots...)
		// One more than its things: none of them.
		all := 1
		for _, s := range slots {
			all *= len(s) + 1
		}
		for pick := range all {
			x, first := handed{n: base(), o: k.o}, api.OK
			// The last slot first, so that what an earlier one makes wrong stays so.
			for i := len(slots) - 1; i >= 0; i-- {
				s := slots[i]
				chosen := pick % (len(s) + 1)
				pick /= len(s) + 1
				if chosen < len(s) {
					s[chosen].make(&x)
					first = s[chosen].e
				}
			}
			if first != api.OK {
				wantWrong(t, x.n, x.s, x.o, first)
			} else {
				wantDone(t, x.n, x.s, x.o, doneBy(x.n, x.o), x.o.Into)
			}
		}
	}
}

// P12.1: a tree that may not be is told as node.Check tells it, also if it is a leaf; then a root that is a leaf, whatever else is wrong.
func TestWrongTrees(t *testing.T) {
	ops := []api.Op{{}, {Kind: 10}, insert(leaf("x"), 0), remove(leaf("a"), 0), put(0, "a"), put(9, "a", 9), choose(none(), none()), choose(sel(pt(0), pt(0)), none()), move(nil, nil)}
	sels := []api.Sel{none(), {Is: true}, sel(pt(0, 0), pt(0, 0)), sel(pt(9, 9), pt(9, 9)), no(pt(1), pt(1))}
	for _, o := range ops {
		for _, s := range sels {
			for e, all := range unfit() {
				for _, n := range all {
					wantWrong(t, n, s, o, e)
					wantWrong(t, elem(leaf("a"), elem(n)), s, o, e)
				}
			}
			for _, n := range []api.Node{leaf(""), leaf("abc"), leaf("a", "bold", "1")} {
				wantWrong(t, n, s, o, api.ErrLeaf)
			}
		}
	}
}
