package op_test

import (
	"fmt"
	"reflect"
	"slices"
	"strings"
	"testing"

	"redline/api"
	"redline/op"
)

// tell is what Apply tells.
type tell struct {
	n api.Node
	s api.Sel
	e api.Errno
}

// call hands all to Check and to Apply.
func call(x handed) tell {
	op.Check(x.n, x.s, x.o)
	n, s, e := op.Apply(x.n, x.s, x.o)
	return tell{n, s, e}
}

// calls are operations that can be done, and such that can not, of all kinds, with selections and without.
func calls() []handed {
	var out []handed
	for _, k := range own() {
		out = append(out, handed{base(), none(), k.o})
		for _, s := range append(common(), k.slots...) {
			for _, w := range s {
				x := handed{base(), none(), k.o}
				w.make(&x)
				out = append(out, x)
			}
		}
	}
	n := tr(`{type:doc}["ab"{a:1}["c"{b:2}"de"[]][{type:p}["f"]]{type:p}[]]`)
	for _, o := range able(n) {
		out = append(out, handed{n, none(), o})
		for _, s := range []api.Sel{sel(pt(0, 0), pt(0, 0)), sel(pt(1, 0), pt(0, 1, 0)), sel(pt(1, 1, 1), pt(1, 2, 0, 0))} {
			out = append(out, handed{n, s, o})
			out = append(out, handed{n, s, choose(s, s)}, handed{n, s, choose(s, sel(pt(1, 0), pt(2, 0)))}, handed{n, s, choose(s, none())})
		}
	}
	return out
}

// inLists goes through all lists in a value, each ahead of those in it.
func inLists(v reflect.Value, visit func(reflect.Value)) {
	switch v.Kind() {
	case reflect.Struct:
		for i := range v.NumField() {
			inLists(v.Field(i), visit)
		}
	case reflect.Slice:
		visit(v)
		for i := range v.Len() {
			inLists(v.Index(i), visit)
		}
	}
}

// inAll goes through all lists of nodes, selections and operations, which are handed as pointers.
func inAll(visit func(reflect.Value), all ...any) {
	for _, x := range all {
		inLists(reflect.ValueOf(x).Elem(), visit)
	}
}

func inHanded(x *handed, visit func(reflect.Value)) { inAll(visit, &x.n, &x.s, &x.o) }

func inTold(x *tell, visit func(reflect.Value)) { inAll(visit, &x.n, &x.s) }

// spoil writes over all numbers and texts of a value, but not into its lists.
func spoil(v reflect.Value) {
	switch v.Kind() {
	case reflect.Bool:
		v.SetBool(!v.Bool())
	case reflect.Int, reflect.Int32:
		v.SetInt(v.Int() + 77)
	case reflect.String:
		v.SetString(v.String() + "spoilt")
	case reflect.Struct:
		for i := range v.NumField() {
			spoil(v.Field(i))
		}
	}
}

// spoilList writes all over a list, also behind its end, as far as it has room.
func spoilList(v reflect.Value) {
	for i := range v.Cap() {
		spoil(v.Slice(0, v.Cap()).Index(i))
	}
}

// roomy gives what is handed lists of its own, each with room behind it, and something in that room.
func roomy(x handed) handed {
	inHanded(&x, func(v reflect.Value) {
		many := v.Len() + 3
		room := reflect.MakeSlice(v.Type(), many, many)
		reflect.Copy(room, v)
		for i := v.Len(); i < many; i++ {
			spoil(room.Index(i))
		}
		v.Set(room.Slice(0, v.Len()))
	})
	return x
}

// whole writes lists down, also what stands in the room behind them, to see whether anybody writes there.
func whole(in func(func(reflect.Value))) string {
	var out strings.Builder
	in(func(v reflect.Value) {
		fmt.Fprintf(&out, "%d, %v, %+v; ", v.Len(), v.IsNil(), v.Slice(0, v.Cap()).Interface())
	})
	return out.String()
}

func wholeHanded(x handed) string {
	return whole(func(visit func(reflect.Value)) { inHanded(&x, visit) })
}

func wholeTold(x tell) string {
	return fmt.Sprint(x.e, x.s.Is, x.s.Anchor.Off, x.s.Focus.Off, x.n.Leaf, whole(func(visit func(reflect.Value)) { inTold(&x, visit) }))
}

// R2: what is handed in stays as it is, also in the room behind its lists, with an error, too; it stays when what was told is written into.
func TestKept(t *testing.T) {
	for _, x := range calls() {
		in := roomy(x)
		was := wholeHanded(in)
		got := call(in)
		if wholeHanded(in) != was {
			t.Fatalf("%s: what was handed in is changed", what(x.n, x.s, x.o))
		}
		inTold(&got, spoilList)
		if wholeHanded(in) != was {
			t.Fatalf("%s: it hangs on what was told", what(x.n, x.s, x.o))
		}
	}
}

// R2: what was told stays when what was handed in is written into, and when it is told again.
func TestStays(t *testing.T) {
	for _, x := range calls() {
		in := roomy(x)
		got := call(in)
		was := wholeTold(got)
		again := call(in)
		if !sameNode(got.n, again.n) || !sameSel(got.s, again.s) || got.e != again.e {
			t.Fatalf("%s: another answer", what(x.n, x.s, x.o))
		}
		inTold(&again, spoilList)
		inHanded(&in, spoilList)
		if wholeTold(got) != was {
			t.Fatalf("%s: what was told hangs on what was handed in", what(x.n, x.s, x.o))
		}
	}
}

// R2: no two lists that are told share anything, nor with what was handed in, also where that has one list, or one node, in several places.
func TestShares(t *testing.T) {
	p, a := path(0), props("a", "1")
	k := leaf("ab", "a", "1")
	n, s := elem(k, k, elem(k, k)), sel(pt(0, 0), pt(1, 0))
	n.Kids[0].Props, n.Kids[1].Props = a, a
	s.Anchor.Path, s.Focus.Path = p, p
	both := api.Op{Kind: api.MoveNode, Path: p, To: p}
	twice := []handed{{n, s, both}, {n, s, choose(s, s)}, {n, none(), choose(none(), s)}, {n, s, insert(n.Kids[2], 1)}, {n, s, insert(n, 1)}, {n, s, split(0, a, 1)}, {n, none(), api.Op{Kind: api.InsertText, Path: p, Pos: 1, Text: k.Text}}, {n, none(), merge(2, a, 1)}, {n, s, api.Op{Kind: api.SetNode, Path: p, Old: a, New: a}}, {n, s, remove(n.Kids[2], 2)}, {n, none(), split(1, a, 2)}}
	for _, x := range twice {
		if got := call(x); got.e != api.OK {
			t.Fatalf("%s: got %d", what(x.n, x.s, x.o), got.e)
		}
	}
	for _, x := range slices.Concat(calls(), twice) {
		got := call(x)
		seen := map[any]bool{}
		spots := func(look func(any)) func(reflect.Value) {
			return func(v reflect.Value) {
				for i := range v.Cap() {
					look(v.Slice(0, v.Cap()).Index(i).Addr().Interface())
				}
			}
		}
		inHanded(&x, spots(func(at any) { seen[at] = true }))
		inTold(&got, spots(func(at any) {
			if seen[at] {
				t.Fatalf("%s: what is told shares something", what(x.n, x.s, x.o))
			}
			seen[at] = true
		}))
	}
}
