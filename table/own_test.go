package table_test

import (
	"fmt"
	"reflect"
	"slices"
	"strings"
	"testing"

	"redline/api"
	"redline/table"
)

// handed is all that a call is handed, told all that it tells.
type handed struct {
	s    api.Schema
	r    api.Rule
	k    api.Node
	kind string
}

type told struct {
	r api.Rule
	a api.Act
	l []string
	n int
	e api.Errno
}

// calls are the five, each by its name.
func calls() map[string]func(handed) told {
	return map[string]func(handed) told{
		"RuleOf": func(x handed) told { return told{r: table.RuleOf(x.s, x.kind)} },
		"ActOf":  func(x handed) told { return told{a: table.ActOf(x.r, x.k)} },
		"Names":  func(x handed) told { return told{l: table.Names(x.s)} },
		"Check":  func(x handed) told { return told{e: table.Check(x.s)} },
		"Fills": func(x handed) (out told) {
			out.n, out.e = table.Fills(x.s)
			return out
		},
	}
}

// cases are things to hand in: schemas that may be, and such that may not, and nodes of all kinds.
func cases() []handed {
	twice := page()
	twice.Else.Kids = twice.Rules[0].Kids
	twice.Rules = append(twice.Rules, twice.Rules[0])
	broken := wide()
	broken.Rules[1].Kids[1].Act.Do, broken.Cap = 9, -1
	empty := plain("", "b")
	empty.Rules[0].Kids, empty.Else.Kids = []api.Pair{}, []api.Pair{on("", wrap(""))}
	schemas := []api.Schema{{}, {Rules: []api.Rule{}}, plain(), plain("p"), page(), wide(), full(), twice, broken, empty, plain(rows(40)...)}
	nodes := []api.Node{leaf("ab"), untyped(leaf("a"), elem("b")), elem("p", leaf("a")), elem("li"), elem("zz"), {Leaf: true, Props: []api.Prop{{K: "type", V: "p"}}, Kids: []api.Node{leaf("c")}}}
	var out []handed
	for _, s := range schemas {
		for i, r := range parts(&s) {
			out = append(out, handed{s, *r, nodes[i%len(nodes)], r.Type})
		}
		for _, k := range nodes {
			out = append(out, handed{s, s.Else, k, "zz"})
		}
	}
	return out
}

// inLists goes through all lists in a value, each ahead of those in it.
func inLists(v reflect.Value, visit func(reflect.Value)) {
	switch v.Kind() {
	case reflect.Struct:
		for i := range v.NumField() {
			inLists(v.Field(i), visit)
		}
	case reflect.Slice:
		visit(v)
		for i := range v.Len() {
			inLists(v.Index(i), visit)
		}
	}
}

// inAll goes through all lists of values, which are handed as pointers.
func inAll(visit func(reflect.Value), all ...any) {
	for _, x := range all {
		inLists(reflect.ValueOf(x).Elem(), visit)
	}
}

func inHanded(x *handed, visit func(reflect.Value)) { inAll(visit, &x.s, &x.r, &x.k) }

func inTold(x *told, visit func(reflect.Value)) { inAll(visit, &x.r, &x.l) }

// spoil writes over all numbers and texts of a value, but not into its lists.
func spoil(v reflect.Value) {
	switch v.Kind() {
	case reflect.Bool:
		v.SetBool(!v.Bool())
	case reflect.Int, reflect.Int32:
		v.SetInt(v.Int() + 77)
	case reflect.String:
		v.SetString(v.String() + "spoilt")
	case reflect.Struct:
		for i := range v.NumField() {
			spoil(v.Field(i))
		}
	}
}

// spoilList writes all over a list, also behind its end, as far as it has room.
func spoilList(v reflect.Value) {
	for i := range v.Cap() {
		spoil(v.Slice(0, v.Cap()).Index(i))
	}
}

// roomy gives what is handed lists of its own, each with room behind it, and something in that room.
func roomy(x handed) handed {
	inHanded(&x, func(v reflect.Value) {
		many := v.Len() + 3
		room := reflect.MakeSlice(v.Type(), many, many)
		reflect.Copy(room, v)
		for i := v.Len(); i < many; i++ {
			spoil(room.Index(i))
		}
		v.Set(room.Slice(0, v.Len()))
	})
	return x
}

// wholly writes lists down, also what stands in the room behind them, to see whether anybody writes there.
func wholly(in func(func(reflect.Value))) string {
	var out strings.Builder
	in(func(v reflect.Value) {
		fmt.Fprintf(&out, "%d, %v, %+v; ", v.Len(), v.IsNil(), v.Slice(0, v.Cap()).Interface())
	})
	return out.String()
}

func allHanded(x handed) string {
	return wholly(func(visit func(reflect.Value)) { inHanded(&x, visit) })
}

func allTold(x told) string { return fmt.Sprint(x) }

func name(call string, x handed) string {
	return call + " of " + few(x.s) + ", " + x.kind + ", " + few(x.k)
}

// P15.1, P15.2, R2: what is handed in stays as it is, also in the room behind its lists, with an error, too; it stays when what was told is written into.
func TestKept(t *testing.T) {
	for _, x := range cases() {
		for call, do := range calls() {
			in := roomy(x)
			was := allHanded(in)
			got := do(in)
			if allHanded(in) != was {
				t.Fatalf("%s: what was handed in is changed", name(call, x))
			}
			inTold(&got, spoilList)
			if allHanded(in) != was {
				t.Fatalf("%s: it hangs on what was told", name(call, x))
			}
		}
	}
}

// P15.1, P15.2, R2: what was told stays when what was handed in is written into, and when it is told again.
func TestStays(t *testing.T) {
	for _, x := range cases() {
		for call, do := range calls() {
			in := roomy(x)
			got, again := do(in), do(in)
			was := allTold(got)
			if allTold(again) != was {
				t.Fatalf("%s: another answer", name(call, x))
			}
			inTold(&again, spoilList)
			inHanded(&in, spoilList)
			if allTold(got) != was {
				t.Fatalf("%s: what was told hangs on what was handed in", name(call, x))
			}
		}
	}
}

// P15.1, R2: no list that is told shares anything with what was handed in, also where several rules have one list there.
func TestShares(t *testing.T) {
	for _, x := range cases() {
		for call, do := range calls() {
			in := x
			seen := map[any]bool{}
			spots := func(look func(any)) func(reflect.Value) {
				return func(v reflect.Value) {
					for i := range v.Cap() {
						look(v.Slice(0, v.Cap()).Index(i).Addr().Interface())
					}
				}
			}
			inHanded(&in, spots(func(at any) { seen[at] = true }))
			got := do(in)
			inTold(&got, spots(func(at any) {
				if seen[at] {
					t.Fatalf("%s: what is told shares something", name(call, x))
				}
				seen[at] = true
			}))
		}
	}
}

// P15.1, R2: the rule that is told can be made longer and written into; the schema, and the rule that is told again, stay.
func TestGrows(t *testing.T) {
	s := page()
	s.Rules[0].Kids = slices.Grow(s.Rules[0].Kids, 8)
	r := table.RuleOf(s, "doc")
	r.Kids[0] = on("spoilt", drop())
	r.Kids = append(r.Kids, on("more", drop()))
	wantRule(t, s, "doc", page().Rules[0])
	if more := s.Rules[0].Kids[:5][4]; more != (api.Pair{}) {
		t.Fatalf("got %v", more)
	}
	l := table.Names(s)
	l[0] = "spoilt"
	_ = append(l, "more")
	wantNames(t, "again", s, table.Names(page())...)
}
