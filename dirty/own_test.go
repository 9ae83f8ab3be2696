package dirty_test

import (
	"fmt"
	"reflect"
	"strings"
	"testing"

	"redline/api"
	"redline/dirty"
)

// handed is all that a call is handed.
type handed struct {
	n api.Node
	l [][]int
	o api.Op
}

// calls are the four, each by its name.
func calls() map[string]func(handed) [][]int {
	return map[string]func(handed) [][]int{
		"All":   func(x handed) [][]int { return dirty.All(x.n) },
		"Marks": func(x handed) [][]int { return dirty.Marks(x.n, x.o) },
		"Step":  func(x handed) [][]int { return dirty.Step(x.n, x.l, x.o) },
		"Ready": func(x handed) [][]int { return dirty.Ready(x.l) },
	}
}

// cases are things to hand in: operations of all kinds, at paths that lead somewhere and at others, and lists in several orders.
func cases() []handed {
	p := path(3, 2)
	lists := [][][]int{
		nil,
		paths(nil),
		paths(path(3, 2), path(0, 1), path(3), path(0, 1), path(9), path(2), path(1)),
		paths(path(0), path(2), path(3, 1), path(3, 2, 0)),
		paths(path(3, 2, 0), path(3, 2), path(3, 2), path(0, 1, 1), path(0, 1)),
		paths(p, p, p[:1], p[:0], p),
	}
	var out []handed
	for _, kind := range append(kinds(), 0, 10) {
		for _, q := range [][]int{nil, path(0), path(3), path(3, 2), path(3, 2, 0, 0), path(2), path(-1), path(9, 9)} {
			for _, to := range [][]int{nil, path(0), path(0, 1), path(3, 2, 0, 0), q} {
				for _, l := range lists {
					o := api.Op{Kind: kind, Path: q, To: to, Pos: 1, Node: tr(`{a:1}["b"[]]`), Old: []api.Prop{{K: "a"}}, New: []api.Prop{{K: "b"}}, Text: []rune{'t'}}
					o.From.Anchor.Path, o.Into.Focus.Path = path(1), path(2)
					out = append(out, handed{tr(deep), l, o})
				}
			}
		}
	}
	return out
}

// inLists goes through all lists in a value, each ahead of those in it.
func inLists(v reflect.Value, visit func(reflect.Value)) {
	switch v.Kind() {
	case reflect.Struct:
		for i := range v.NumField() {
			inLists(v.Field(i), visit)
		}
	case reflect.Slice:
		visit(v)
		for i := range v.Len() {
			inLists(v.Index(i), visit)
		}
	}
}

func inHanded(x *handed, visit func(reflect.Value)) {
	inLists(reflect.ValueOf(&x.n).Elem(), visit)
	inLists(reflect.ValueOf(&x.l).Elem(), visit)
	inLists(reflect.ValueOf(&x.o).Elem(), visit)
}

func inTold(l *[][]int, visit func(reflect.Value)) { inLists(reflect.ValueOf(l).Elem(), visit) }

// spoil writes over all numbers and texts of a value, and over the lists in it, but not into these.
func spoil(v reflect.Value) {
	switch v.Kind() {
	case reflect.Bool:
		v.SetBool(!v.Bool())
	case reflect.Int, reflect.Int32:
		v.SetInt(v.Int() + 77)
	case reflect.String:
		v.SetString(v.String() + "spoilt")
	case reflect.Struct:
		for i := range v.NumField() {
			spoil(v.Field(i))
		}
	}
}

// spoilList writes all over a list, also behind its end, as far as it has room; of a list of paths each is another one then.
func spoilList(v reflect.Value) {
	v = v.Slice(0, v.Cap())
	for i := range v.Len() {
		if v.Index(i).Kind() == reflect.Slice {
			for k := range v.Index(i).Cap() {
				spoil(v.Index(i).Slice(0, v.Index(i).Cap()).Index(k))
			}
			v.Index(i).Set(reflect.ValueOf(path(88, 88)))
		}
		spoil(v.Index(i))
	}
}

// roomy gives what is handed lists of its own, each with room behind it, and something in that room.
func roomy(x handed) handed {
	inHanded(&x, func(v reflect.Value) {
		many := v.Len() + 3
		room := reflect.MakeSlice(v.Type(), many, many)
		reflect.Copy(room, v)
		for i := v.Len(); i < many; i++ {
			spoil(room.Index(i))
		}
		v.Set(room.Slice(0, v.Len()))
	})
	return x
}

// whole writes what is handed down, also what stands in the room behind its lists, to see whether anybody writes there.
func whole(x handed) string {
	var out strings.Builder
	inHanded(&x, func(v reflect.Value) {
		fmt.Fprintf(&out, "%d, %v, %+v; ", v.Len(), v.IsNil(), v.Slice(0, v.Cap()).Interface())
	})
	return out.String()
}

// R2: what is handed in stays as it is, also in the room behind its lists; it stays when what was told is written into.
func TestKept(t *testing.T) {
	for _, x := range cases() {
		for name, call := range calls() {
			in := roomy(x)
			was := whole(in)
			got := call(in)
			if whole(in) != was {
				t.Fatalf("%s: %s of %s: what was handed in is changed", name, what(x.n, x.o), few(x.l))
			}
			inTold(&got, spoilList)
			if whole(in) != was {
				t.Fatalf("%s: %s of %s: it hangs on what was told", name, what(x.n, x.o), few(x.l))
			}
		}
	}
}

// R2: what was told stays when what was handed in is written into, and when it is told again.
func TestStays(t *testing.T) {
	for _, x := range cases() {
		for name, call := range calls() {
			in := roomy(x)
			got, again := call(in), call(in)
			was := fmt.Sprint(got)
			if fmt.Sprint(again) != was {
				t.Fatalf("%s: %s of %s: another answer", name, what(x.n, x.o), few(x.l))
			}
			inTold(&again, spoilList)
			inHanded(&in, spoilList)
			if fmt.Sprint(got) != was {
				t.Fatalf("%s: %s of %s: what was told hangs on what was handed in", name, what(x.n, x.o), few(x.l))
			}
		}
	}
}

// R2: no two lists that are told share anything, nor with what was handed in, also where that has one path in several places.
func TestShares(t *testing.T) {
	for _, x := range cases() {
		for name, call := range calls() {
			in := x
			seen := map[any]bool{}
			spots := func(look func(any)) func(reflect.Value) {
				return func(v reflect.Value) {
					for i := range v.Cap() {
						look(v.Slice(0, v.Cap()).Index(i).Addr().Interface())
					}
				}
			}
			inHanded(&in, spots(func(at any) { seen[at] = true }))
			got := call(in)
			inTold(&got, spots(func(at any) {
				if seen[at] {
					t.Fatalf("%s: %s of %s: what is told shares something", name, what(x.n, x.o), few(x.l))
				}
				seen[at] = true
			}))
		}
	}
}

// R2: whoever makes a path longer, as slices grow, changes no other one.
func TestGrows(t *testing.T) {
	for name, call := range calls() {
		x := handed{tr(deep), paths(path(0), path(2), path(3, 1), path(3, 2)), insert(3)}
		want, got := fmt.Sprint(call(x)), call(x)
		for i := range got {
			_ = append(got[i], -99, -98)
			if fmt.Sprint(got) != want {
				t.Fatalf("%s: path %d grows into another one", name, i)
			}
		}
	}
}
