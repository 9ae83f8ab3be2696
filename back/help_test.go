package back_test

import (
	"fmt"
	"math"
	"reflect"
	"slices"
	"strings"
	"testing"

	"redline/api"
	"redline/back"
)

// path makes a path of numbers.
func path(l ...int) []int { return l }

// pt makes a point of an Off and its Path's numbers.
func pt(off int, l ...int) api.Point { return api.Point{Path: l, Off: off} }

// sel makes a selection of its Anchor and its Focus, no one that is none, whatever its points are.
func sel(a, f api.Point) api.Sel {
	return api.Sel{Is: true, Range: api.Range{Anchor: a, Focus: f}}
}

func no(a, f api.Point) api.Sel { return api.Sel{Range: api.Range{Anchor: a, Focus: f}} }

// props makes properties of keys and values, one after the other.
func props(l ...string) []api.Prop {
	var out []api.Prop
	for i := 0; i+1 < len(l); i += 2 {
		out = append(out, api.Prop{K: l[i], V: l[i+1]})
	}
	return out
}

func leaf(s string, l ...string) api.Node {
	return api.Node{Leaf: true, Props: props(l...), Text: []rune(s)}
}

func elem(l []api.Prop, kids ...api.Node) api.Node {
	return api.Node{Props: l, Kids: kids}
}

// sample is a tree with something of all kinds at several depths.
func sample() api.Node {
	return elem(props("a", "1", "type", "p"), leaf("ab", "bold", "1"), elem(nil, elem(props("type", "q"), leaf("c"))), leaf(""))
}

// chain is a node under so many elements, each the only Kid of the one above it.
func chain(above int, n api.Node) api.Node {
	for range above {
		n = elem(nil, n)
	}
	return n
}

// nine are all kinds of operations, strange ones that there are none of.
func nine() []int {
	return []int{api.InsertNode, api.RemoveNode, api.MergeNode, api.SplitNode, api.MoveNode, api.SetNode, api.InsertText, api.RemoveText, api.SetSel}
}

func strange() []int {
	return []int{math.MinInt, -1 << 32, -256 + api.SetSel, -9, -1, 0, 10, 11, 16, 256 + api.InsertNode, 1<<32 + api.SetNode, math.MaxInt}
}

// both are an operation and the one that undoes it.
type both struct{ o, inverse api.Op }

// full are operations of all nine kinds, in their order, each with all of its fields.
func full() []both {
	one, two := sel(pt(2, 1), pt(0, 0, 3)), sel(pt(4, 5), pt(6, 7, 8))
	a, b := props("a", "1", "b", "2"), props("a", "3")
	text := []rune{'a', 0x2603, 0x10ffff}
	return []both{
		{api.Op{Kind: 1, Path: path(1, 2), Node: sample()}, api.Op{Kind: 2, Path: path(1, 2), Node: sample()}},
		{api.Op{Kind: 2, Path: path(4), Node: leaf("a", "b", "c")}, api.Op{Kind: 1, Path: path(4), Node: leaf("a", "b", "c")}},
		{api.Op{Kind: 3, Path: path(1, 2, 3), Pos: 4, Old: a}, api.Op{Kind: 4, Path: path(1, 2, 2), Pos: 4, New: a}},
		{api.Op{Kind: 4, Path: path(5, 0), Pos: 6, New: b}, api.Op{Kind: 3, Path: path(5, 1), Pos: 6, Old: b}},
		{api.Op{Kind: 5, Path: path(0, 1), To: path(2, 3, 4)}, api.Op{Kind: 5, Path: path(2, 3, 4), To: path(0, 1)}},
		{api.Op{Kind: 6, Path: path(7), Old: a, New: b}, api.Op{Kind: 6, Path: path(7), Old: b, New: a}},
		{api.Op{Kind: 7, Path: path(0, 8), Pos: 9, Text: text}, api.Op{Kind: 8, Path: path(0, 8), Pos: 9, Text: text}},
		{api.Op{Kind: 8, Path: path(3), Pos: 2, Text: text}, api.Op{Kind: 7, Path: path(3), Pos: 2, Text: text}},
		{api.Op{Kind: 9, From: one, Into: two}, api.Op{Kind: 9, From: two, Into: one}},
	}
}

// field is a field of an operation: the kinds that have it, and what fills it, and leaves it zero.
type field struct {
	name           string
	kinds          []int
	fills, empties []func(*api.Op)
}

// fields are all of them but the Kind, with the kinds that the chapter says have them.
func fields() []field {
	kids := []api.Node{{}}
	paths := [][]int{path(0), path(1, 2), path(-1), path(math.MinInt, math.MaxInt)}
	lists := [][]api.Prop{{{}}, props("a", "1"), props("b", "", "a", ""), slices.Repeat(props("A", "!"), 99)}
	nodes := []api.Node{{Leaf: true}, leaf("a"), {Text: []rune{0}}, {Props: []api.Prop{{}}}, {Kids: kids}, {Leaf: true, Kids: kids}, sample()}
	texts := [][]rune{{0}, {'a', 'b'}, {-1}, {0xd800}}
	numbers := []int{math.MinInt, -1 << 32, -1, 1, 2, 256, 1 << 32, math.MaxInt}
	sels := []api.Sel{{Is: true}, no(pt(1), pt(0)), no(pt(0), pt(-1)), no(pt(0, 0), pt(0)), no(pt(0), pt(0, 1, 2)), sel(pt(1, 2), pt(3, 4)), no(pt(1), pt(1)), no(pt(0, 0), pt(0, 0))}
	noPath := [][]int{nil, {}, make([]int, 0, 3)}
	noProps := [][]api.Prop{nil, {}, make([]api.Prop, 0, 3)}
	noNode := []api.Node{{}, {Props: []api.Prop{}, Text: []rune{}, Kids: []api.Node{}}, {Kids: make([]api.Node, 0, 3)}}
	noSel := []api.Sel{{}, no(pt(0, path()...), pt(0, path()...)), no(api.Point{Path: make([]int, 0, 3)}, pt(0))}
	return []field{
		one("Path", nine()[:8], func(o *api.Op) *[]int { return &o.Path }, paths, noPath),
		one("To", []int{5}, func(o *api.Op) *[]int { return &o.To }, paths, noPath),
		one("Pos", []int{3, 4, 7, 8}, func(o *api.Op) *int { return &o.Pos }, numbers, []int{0}),
		one("Node", []int{1, 2}, func(o *api.Op) *api.Node { return &o.Node }, nodes, noNode),
		one("Old", []int{3, 6}, func(o *api.Op) *[]api.Prop { return &o.Old }, lists, noProps),
		one("New", []int{4, 6}, func(o *api.Op) *[]api.Prop { return &o.New }, lists, noProps),
		one("Text", []int{7, 8}, func(o *api.Op) *[]rune { return &o.Text }, texts, [][]rune{nil, {}, make([]rune, 0, 3)}),
		one("From", []int{9}, func(o *api.Op) *api.Sel { return &o.From }, sels, noSel),
		one("Into", []int{9}, func(o *api.Op) *api.Sel { return &o.Into }, sels, noSel),
	}
}

// one makes a field of what it may be filled with, and of what is zero.
func one[T any](name string, kinds []int, in func(*api.Op) *T, fills, empties []T) field {
	out := field{name: name, kinds: kinds}
	for _, v := range fills {
		out.fills = append(out.fills, func(o *api.Op) { *in(o) = v })
	}
	for _, v := range empties {
		out.empties = append(out.empties, func(o *api.Op) { *in(o) = v })
	}
	return out
}

func (f field) isOf(kind int) bool { return slices.Contains(f.kinds, kind) }

// show writes an operation down whole; lists that are nil and empty are written alike.
func show(o api.Op) string { return fmt.Sprintf("%+v", o) }

func showAll(l []api.Op) string { return fmt.Sprintf("%+v", l) }

func wantForm(t *testing.T, o api.Op, want api.Errno) {
	t.Helper()
	if got := back.Form(o); got != want {
		t.Fatalf("%s: got %d, want %d", show(o), got, want)
	}
}

func wantInverse(t *testing.T, o, want api.Op) {
	t.Helper()
	if got, e := back.Inverse(o); e != api.OK || show(got) != show(want) {
		t.Fatalf("%s: got %s, %d, want %s", show(o), show(got), e, show(want))
	}
}

// wantError looks that an operation has no inverse, and that all else is zero then.
func wantError(t *testing.T, o api.Op, want api.Errno) {
	t.Helper()
	if got, e := back.Inverse(o); e != want || show(got) != show(api.Op{}) {
		t.Fatalf("%s: got %s, %d, want %d", show(o), show(got), e, want)
	}
}

func wantAll(t *testing.T, l, want []api.Op, wrong api.Errno) {
	t.Helper()
	if got, e := back.All(l); e != wrong || showAll(got) != showAll(want) {
		t.Fatalf("%s: got %s, %d, want %s, %d", showAll(l), showAll(got), e, showAll(want), wrong)
	}
}

// lists goes through all lists in a value, each ahead of those in it.
func lists(v reflect.Value, visit func(reflect.Value)) {
	switch v.Kind() {
	case reflect.Struct:
		for i := range v.NumField() {
			lists(v.Field(i), visit)
		}
	case reflect.Slice:
		visit(v)
		for i := range v.Len() {
			lists(v.Index(i), visit)
		}
	}
}

// spoil writes over all numbers and texts of a value, but not into its lists.
func spoil(v reflect.Value) {
	switch v.Kind() {
	case reflect.Bool:
		v.SetBool(!v.Bool())
	case reflect.Int, reflect.Int32:
		v.SetInt(v.Int() + 77)
	case reflect.String:
		v.SetString(v.String() + "spoilt")
	case reflect.Struct:
		for i := range v.NumField() {
			spoil(v.Field(i))
		}
	}
}

// spoilLists writes all over the lists of operations, also behind their ends, as far as they have room.
func spoilLists(l *[]api.Op) {
	lists(reflect.ValueOf(l).Elem(), func(v reflect.Value) {
		for i := range v.Cap() {
			spoil(v.Slice(0, v.Cap()).Index(i))
		}
	})
}

// roomy is a copy of operations each list of which has room behind it, and something in that room.
func roomy(l []api.Op) []api.Op {
	out := slices.Clone(l)
	lists(reflect.ValueOf(&out).Elem(), func(v reflect.Value) {
		many := v.Len() + 3
		room := reflect.MakeSlice(v.Type(), many, many)
		reflect.Copy(room, v)
		for i := v.Len(); i < many; i++ {
			spoil(room.Index(i))
		}
		v.Set(room.Slice(0, v.Len()))
	})
	return out
}

// whole writes operations down, also what stands in the room behind their lists, to see whether anybody writes there.
func whole(l []api.Op) string {
	var out strings.Builder
	out.WriteString(showAll(l))
	lists(reflect.ValueOf(&l).Elem(), func(v reflect.Value) {
		fmt.Fprintf(&out, "; %d, %v, %+v", v.Len(), v.IsNil(), v.Slice(0, v.Cap()).Interface())
	})
	return out.String()
}

// spots are where all that is in the lists of operations stands, as far as these have room.
func spots(l []api.Op) []any {
	var out []any
	lists(reflect.ValueOf(&l).Elem(), func(v reflect.Value) {
		for i := range v.Cap() {
			out = append(out, v.Slice(0, v.Cap()).Index(i).Addr().Interface())
		}
	})
	return out
}
