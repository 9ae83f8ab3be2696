package table_test

import (
	"fmt"
	"slices"
	"strings"
	"testing"

	"redline/api"
	"redline/table"
)

// P15.1: the rule of the first, of a middle, and of the last one's type, whole; Else's of a type that no rule has.
func TestRuleOf(t *testing.T) {
	for _, s := range []api.Schema{page(), full(), plain("a"), plain(), {}, {Rules: []api.Rule{}}} {
		for _, r := range s.Rules {
			wantRule(t, s, r.Type, r)
		}
		for _, kind := range []string{"", "a0", "do", "docs", "Doc", " p", "p ", "zz", "t0003", "t000031", "type", "\xff", strings.Repeat("t", 1<<16)} {
			wantRule(t, s, kind, s.Else)
		}
	}
}

// P15.1: each field of the rule that is told.
func TestRuleOfWhole(t *testing.T) {
	r := api.Rule{Type: "p", Text: wrap("a"), Other: api.Act{Do: 9, Type: "b"}, Kids: []api.Pair{on("c", wrap("d")), on("c", lift())}, Fill: 7, FillType: "e"}
	other := api.Rule{Type: "f", Text: drop(), Other: wrap("g"), Kids: []api.Pair{on("", keep())}, Fill: -1, FillType: "h"}
	s := api.Schema{Rules: []api.Rule{r}, Else: other}
	wantRule(t, s, "p", r)
	wantRule(t, s, "f", other)
	wantRule(t, s, "", other)
}

// P15.1: the first one of Rules with a type, where several have it, whatever order they have.
func TestRuleOfFirst(t *testing.T) {
	var s api.Schema
	for i, kind := range []string{"b", "a", "b", "c", "a", "b"} {
		s.Rules = append(s.Rules, api.Rule{Type: kind, Fill: i + 1})
	}
	for kind, want := range map[string]int{"b": 1, "a": 2, "c": 4, "d": 0} {
		if r := table.RuleOf(s, kind); r.Fill != want {
			t.Fatalf("of %q: got %d, want %d", kind, r.Fill, want)
		}
	}
}

// P15.1: a rule whose Type is empty is that of the empty type; without one it is Else.
func TestRuleOfEmpty(t *testing.T) {
	s := plain("a", "", "b", "")
	for i, r := range parts(&s) {
		r.Fill = i + 1
	}
	for kind, want := range map[string]int{"a": 1, "": 2, "b": 3, "c": 5} {
		if r := table.RuleOf(s, kind); r.Fill != want {
			t.Fatalf("of %q: got %d, want %d", kind, r.Fill, want)
		}
	}
	s.Rules = s.Rules[:1]
	if r := table.RuleOf(s, ""); r.Fill != 5 {
		t.Fatalf("got %d", r.Fill)
	}
}

// P15.1: types that are no names, as schemas that may not be have them, are looked up as they are.
func TestRuleOfStrange(t *testing.T) {
	s := plain(append(strange(), rows(1<<16)...)...)
	for i, r := range parts(&s) {
		r.Fill = i + 1
	}
	for _, i := range []int{0, 1, 4, 5, 10, 11, 12, 20, 1 << 10, 1 << 16, len(s.Rules) - 1} {
		at := slices.IndexFunc(s.Rules, func(r api.Rule) bool { return r.Type == s.Rules[i].Type })
		wantRule(t, s, s.Rules[i].Type, s.Rules[at])
	}
	wantRule(t, s, "a b ", s.Else)
}

// asked is one case of ActOf.
type asked struct {
	name string
	k    api.Node
	want api.Act
}

func wantActs(t *testing.T, r api.Rule, cases []asked) {
	t.Helper()
	for _, x := range cases {
		if a := table.ActOf(r, x.k); a != x.want {
			t.Errorf("%s: got %v, want %v", x.name, a, x.want)
		}
	}
}

// P15.1: Text of leaves, whatever they have; of elements the Act of their type, or Other.
func TestActOf(t *testing.T) {
	r := api.Rule{Type: "r", Text: wrap("text"), Other: wrap("other"), Kids: []api.Pair{on("a", wrap("w")), on("b", drop()), on("c", lift()), on("r", keep())}, Fill: api.ElemFill, FillType: "d"}
	typed := leaf("ab")
	typed.Props = []api.Prop{{K: "type", V: "a"}}
	bold := untyped()
	bold.Props = []api.Prop{{K: "a", V: "b"}, {K: "b", V: "a"}}
	late := elem("b", elem("a"))
	late.Props = []api.Prop{{K: "a", V: "c"}, {K: "type", V: "b"}, {K: "z", V: "a"}}
	wantActs(t, r, []asked{
		{"a leaf", leaf("ab"), wrap("text")},
		{"a leaf without runes", leaf(""), wrap("text")},
		{"a leaf with a type", typed, wrap("text")},
		{"the first type", elem("a"), wrap("w")},
		{"a middle one", elem("b", leaf("x")), drop()},
		{"a middle one behind other properties", late, drop()},
		{"another middle one", elem("c"), lift()},
		{"the last one, which is the rule's own", elem("r"), keep()},
		{"another one", elem("e"), wrap("other")},
		{"that of the fill", elem("d"), wrap("other")},
		{"that of a wrap", elem("w"), wrap("other")},
		{"the beginning of one", elem("aa"), wrap("other")},
		{"an element without a type", untyped(), wrap("other")},
		{"one with other properties", bold, wrap("other")},
		{"one with an empty type", elem(""), wrap("other")},
		{"one with Kids of a type", untyped(elem("a")), wrap("other")},
	})
	wantActs(t, api.Rule{Text: keep(), Other: drop()}, []asked{
		{"a leaf, of a rule without Kids", leaf("a"), keep()},
		{"an element, of a rule without Kids", elem("a"), drop()},
	})
	wantActs(t, api.Rule{}, []asked{{"a leaf, of nothing", leaf("a"), api.Act{}}, {"an element, of nothing", elem("a"), api.Act{}}})
}

// P15.1: the first one of Kids with a type, where several have it; the empty type is one, too, if it is among them.
func TestActOfFirst(t *testing.T) {
	r := api.Rule{Text: wrap("text"), Other: wrap("other")}
	for i, kind := range []string{"b", "a", "", "b", "", "P", "a"} {
		r.Kids = append(r.Kids, on(kind, api.Act{Do: i + 1, Type: fmt.Sprint(i)}))
	}
	wantActs(t, r, []asked{
		{"b", elem("b"), r.Kids[0].Act},
		{"a", elem("a"), r.Kids[1].Act},
		{"no name", elem("P"), r.Kids[5].Act},
		{"an empty type", elem(""), r.Kids[2].Act},
		{"no type", untyped(), r.Kids[2].Act},
		{"another one", elem("c"), wrap("other")},
		{"a leaf", leaf("a"), wrap("text")},
	})
}

// P15.1: of many Kids the last one is found, too.
func TestActOfMany(t *testing.T) {
	r := all("r")
	for i, kind := range rows(1 << 16) {
		r.Kids = append(r.Kids, on(kind, api.Act{Do: i + 1}))
	}
	for _, i := range []int{0, 1, api.MaxRules - 1, api.MaxRules, api.MaxRules + 1, 255, 256, 1 << 15, 1<<16 - 1} {
		if a := table.ActOf(r, elem(r.Kids[i].Type)); a.Do != i+1 {
			t.Fatalf("%d: got %v", i, a)
		}
	}
}

// P15.1, wrong inputs: nodes that may not be are leaves, or elements with a type, as node.Type tells it.
func TestActOfStrange(t *testing.T) {
	r := api.Rule{Text: wrap("text"), Other: wrap("other"), Kids: []api.Pair{on("a", keep()), on("b", drop())}}
	full := elem("b", leaf("a"))
	full.Leaf = true
	text := elem("b")
	text.Text = []rune{-1, 'x'}
	twice := untyped()
	twice.Props = []api.Prop{{K: "z", V: "Z"}, {K: "type", V: "b"}, {K: "type", V: "a"}}
	deep := elem("a")
	for range 1 << 16 {
		deep = elem("b", deep)
	}
	wantActs(t, r, []asked{
		{"a leaf with Kids and a type", full, wrap("text")},
		{"an element with Text", text, drop()},
		{"two types, out of order", twice, drop()},
		{"a deep one", deep, drop()},
	})
}
