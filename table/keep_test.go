package table_test

import (
	"testing"

	"redline/api"
)

// one is one case: rules, Else at the end, and how far fills go, or -1, if such a schema may not be.
type one struct {
	name  string
	rules []api.Rule
	fills int
}

func rule(kind string, text, other api.Act, kids ...api.Pair) api.Rule {
	return api.Rule{Type: kind, Text: text, Other: other, Kids: kids}
}

// filled is a rule that is filled with a leaf, or, if there is one, with elements of a type.
func filled(r api.Rule, kind string) api.Rule {
	r.Fill, r.FillType = api.TextFill, kind
	if kind != "" {
		r.Fill = api.ElemFill
	}
	return r
}

func list(l ...api.Rule) []api.Rule { return l }

func (x one) schema() api.Schema {
	s := plain()
	s.Rules, s.Else = x.rules[:len(x.rules)-1], x.rules[len(x.rules)-1]
	return s
}

func wantOnes(t *testing.T, cases []one) {
	t.Helper()
	for _, x := range cases {
		if x.fills < 0 {
			wantNot(t, x.name, x.schema())
		} else {
			wantMay(t, x.name, x.schema(), x.fills)
		}
	}
}

// P15.2: a leaf that is wrapped in W is kept by W's rule, and W by the rule itself.
func TestWrapText(t *testing.T) {
	for _, x := range []struct {
		a   api.Act
		may int
	}{{keep(), 0}, {drop(), -1}, {wrap("v"), -1}, {wrap("w"), -1}} {
		wantOnes(t, []one{
			{"W has a rule", list(rule("r", wrap("w"), keep()), rule("v", keep(), keep()), rule("w", x.a, keep()), all("")), x.may},
			{"of Else, W has a rule", list(rule("w", x.a, drop()), rule("", wrap("w"), lift(), on("w", keep()))), x.may},
			{"W's rule is Else", list(rule("r", wrap("w"), keep(), on("w", keep())), rule("", x.a, keep())), x.may},
			{"W's rule, not that of another type, nor Else", list(rule("r", wrap("w"), keep()), rule("s", drop(), keep()), rule("v", keep(), keep()), rule("w", x.a, keep()), rule("", drop(), keep())), x.may},
		})
	}
	wantOnes(t, []one{
		{"of Else, W's rule is Else", list(rule("", wrap("w"), keep())), -1},
		{"in its own type", list(rule("r", wrap("r"), keep()), all("")), -1},
	})
	for _, x := range []struct {
		other api.Act
		kids  []api.Pair
		may   int
	}{
		{keep(), nil, 0},
		{drop(), []api.Pair{on("w", keep())}, 0},
		{drop(), []api.Pair{on("a", drop()), on("w", keep()), on("z", drop())}, 0},
		{drop(), nil, -1},
		{lift(), nil, -1},
		{wrap("w"), nil, -1},
		{keep(), []api.Pair{on("w", drop())}, -1},
		{keep(), []api.Pair{on("w", lift())}, -1},
		{keep(), []api.Pair{on("w", wrap("v"))}, -1},
		{keep(), []api.Pair{on("w", wrap("w"))}, -1},
		{keep(), []api.Pair{on("v", drop())}, 0},
		{drop(), []api.Pair{on("v", keep())}, -1},
	} {
		wantOnes(t, []one{
			{"the rule keeps W?" + few(x), list(rule("r", wrap("w"), x.other, x.kids...), rule("v", keep(), keep()), rule("w", keep(), keep()), all("")), x.may},
			{"Else keeps W?" + few(x), list(rule("w", keep(), keep()), rule("", wrap("w"), x.other, x.kids...)), x.may},
			{"the rule keeps W, which has none?" + few(x), list(rule("r", wrap("w"), x.other, x.kids...), all("")), x.may},
		})
	}
}

// P15.2: an element of a type of Kids that is wrapped in W is kept by W's rule, and W by the rule itself.
func TestWrapKid(t *testing.T) {
	kid := on("k", wrap("w"))
	for _, x := range []struct {
		other api.Act
		kids  []api.Pair
		may   int
	}{
		{keep(), nil, 0},
		{drop(), []api.Pair{on("k", keep())}, 0},
		{wrap("v"), []api.Pair{on("k", keep()), on("v", keep())}, 0},
		{drop(), nil, -1},
		{lift(), nil, -1},
		{wrap("v"), []api.Pair{on("v", keep())}, -1},
		{keep(), []api.Pair{on("k", drop())}, -1},
		{keep(), []api.Pair{on("k", lift())}, -1},
		{keep(), []api.Pair{on("k", wrap("v"))}, -1},
		{keep(), []api.Pair{on("j", drop()), on("l", drop())}, 0},
		{drop(), []api.Pair{on("j", keep()), on("l", keep())}, -1},
	} {
		wantOnes(t, []one{
			{"W's rule keeps it?" + few(x), list(rule("r", drop(), drop(), kid, on("w", keep())), all("v"), rule("w", drop(), x.other, x.kids...), all("")), x.may},
			{"of Else, W's rule keeps it?" + few(x), list(all("v"), rule("w", drop(), x.other, x.kids...), rule("", drop(), drop(), kid, on("w", keep()))), x.may},
			{"W's rule, which is Else, keeps it?" + few(x), list(rule("r", drop(), drop(), kid, on("w", keep())), all("v"), rule("", drop(), x.other, x.kids...)), x.may},
		})
	}
	wantOnes(t, []one{
		{"a first, a middle, a last Kid", list(rule("r", keep(), keep(), on("a", wrap("w")), on("b", wrap("x")), on("c", wrap("y"))), all("")), 0},
		{"a first one is not kept", list(rule("r", keep(), keep(), on("a", wrap("w")), on("b", wrap("x")), on("c", wrap("y"))), rule("w", keep(), drop()), all("")), -1},
		{"a middle one is not kept", list(rule("r", keep(), keep(), on("a", wrap("w")), on("b", wrap("x")), on("c", wrap("y"))), rule("x", keep(), drop()), all("")), -1},
		{"a last one is not kept", list(rule("r", keep(), keep(), on("a", wrap("w")), on("b", wrap("x")), on("c", wrap("y"))), rule("y", keep(), drop()), all("")), -1},
		{"W is not kept", list(rule("r", keep(), drop(), on("k", wrap("w"))), all("")), -1},
		{"W is lifted", list(rule("r", keep(), keep(), on("k", wrap("w")), on("w", lift())), all("")), -1},
		{"W is wrapped", list(rule("r", keep(), keep(), on("k", wrap("w")), on("w", wrap("k"))), all("")), -1},
		{"W is k itself", list(rule("r", keep(), keep(), on("k", wrap("k"))), all("")), -1},
		{"W is the rule's own type", list(rule("r", keep(), keep(), on("k", wrap("r"))), all("")), -1},
		{"in each other", list(rule("a", keep(), keep(), on("k", wrap("b"))), rule("b", keep(), keep(), on("k", wrap("a"))), all("")), -1},
		{"one in the other", list(rule("a", keep(), keep(), on("k", wrap("b"))), rule("b", keep(), keep(), on("j", wrap("c"))), all("")), 0},
	})
}

// P15.2: what Other wraps in W is kept by W's rule: elements of all types that are named anywhere, and such without a type.
func TestWrapOther(t *testing.T) {
	wantOnes(t, []one{
		{"W keeps all", list(rule("r", keep(), wrap("w"), on("w", keep())), rule("w", drop(), keep()), all("")), 0},
		{"Else keeps all", list(rule("r", keep(), wrap("w"), on("w", keep())), all("")), 0},
		{"of Else, W keeps all", list(rule("w", drop(), keep()), rule("", keep(), wrap("w"), on("w", keep()))), 0},
		{"of Else, W's rule is Else", list(rule("", keep(), wrap("w"), on("w", keep()))), -1},
		{"W is not among Kids", list(rule("r", keep(), wrap("w")), all("")), -1},
		{"W is dropped", list(rule("r", keep(), wrap("w"), on("w", drop())), all("")), -1},
		{"W drops those without a type", list(rule("r", keep(), wrap("w"), on("w", keep())), rule("w", keep(), drop(), on("r", keep()), on("w", keep())), all("")), -1},
		{"W lifts those without a type", list(rule("r", keep(), wrap("w"), on("w", keep())), rule("w", keep(), lift(), on("r", keep()), on("w", keep())), all("")), -1},
		{"W wraps those without a type", list(rule("r", keep(), wrap("w"), on("w", keep())), rule("w", keep(), wrap("r"), on("r", keep()), on("w", keep())), all("")), -1},
		{"W drops a type of its Kids", list(rule("r", keep(), wrap("w"), on("w", keep())), rule("w", keep(), keep(), on("x", drop())), all("")), -1},
		{"W lifts the rule's own type", list(rule("r", keep(), wrap("w"), on("w", keep())), rule("w", keep(), keep(), on("r", lift())), all("")), -1},
		{"W drops a type that the rule keeps", list(rule("r", keep(), wrap("w"), on("w", keep()), on("x", keep())), rule("w", keep(), keep(), on("x", drop())), all("")), 0},
		{"W drops a type that the rule drops", list(rule("r", keep(), wrap("w"), on("w", keep()), on("x", drop())), rule("w", keep(), keep(), on("x", drop())), all("")), 0},
		{"W drops its own type, which the rule keeps", list(rule("r", keep(), wrap("w"), on("w", keep())), rule("w", keep(), keep(), on("w", drop())), all("")), 0},
		{"W drops leaves, which the rule keeps", list(rule("r", keep(), wrap("w"), on("w", keep())), rule("w", drop(), keep()), all("")), 0},
		{"Else drops a type of its Kids", list(rule("r", keep(), wrap("w"), on("w", keep())), rule("", keep(), keep(), on("x", drop()))), -1},
		{"in its own type", list(rule("r", keep(), wrap("r"), on("r", keep())), all("")), -1},
	})
}

// P15.2: wraps are asked of the first rule, of one in the middle, of the last one, and of Else.
func TestWrapEach(t *testing.T) {
	for i := range 4 {
		s := plain("a", "b", "c")
		s.Rules = append(s.Rules, rule("w", drop(), drop(), on("k", keep())))
		r := parts(&s)[i]
		if i == 3 {
			r = &s.Else
		}
		for _, how := range []func(r *api.Rule){
			func(r *api.Rule) { r.Text = wrap("w") },
			func(r *api.Rule) { r.Other, r.Kids = wrap("w"), []api.Pair{on("w", keep())} },
			func(r *api.Rule) { r.Kids = []api.Pair{on("b", wrap("w"))} },
			func(r *api.Rule) { r.Kids = []api.Pair{on("b", keep()), on("x", wrap("w")), on("y", keep())} },
		} {
			was := *r
			how(r)
			wantNot(t, few(*r), s)
			*r = was
		}
		r.Kids = []api.Pair{on("k", wrap("w"))}
		wantMay(t, few(*r), s, 0)
	}
}

// P15.2: what a rule, and Else, fills with it keeps.
func TestFillKept(t *testing.T) {
	for _, x := range []struct {
		text api.Act
		may  int
	}{{keep(), 1}, {drop(), -1}, {wrap("w"), -1}} {
		r := filled(rule("r", x.text, keep()), "")
		wantOnes(t, []one{
			{"a first rule", list(r, all("s"), all("w"), all("")), x.may},
			{"a middle one", list(all("a"), r, all("w"), all("")), x.may},
			{"a last one", list(all("a"), all("b"), r, all("")), x.may},
			{"Else", list(all("a"), all("w"), filled(rule("", x.text, keep()), "")), x.may},
		})
	}
	for _, x := range []struct {
		other api.Act
		kids  []api.Pair
		may   int
	}{
		{keep(), nil, 1},
		{drop(), []api.Pair{on("f", keep())}, 1},
		{lift(), []api.Pair{on("a", drop()), on("f", keep()), on("z", drop())}, 1},
		{keep(), []api.Pair{on("r", drop())}, 1},
		{drop(), nil, -1},
		{lift(), nil, -1},
		{wrap("w"), []api.Pair{on("w", keep())}, -1},
		{keep(), []api.Pair{on("f", drop())}, -1},
		{keep(), []api.Pair{on("f", lift())}, -1},
		{keep(), []api.Pair{on("f", wrap("w"))}, -1},
		{drop(), []api.Pair{on("e", keep()), on("g", keep())}, -1},
	} {
		r := filled(rule("r", drop(), x.other, x.kids...), "f")
		wantOnes(t, []one{
			{"a first rule" + few(x), list(r, all("s"), all("w"), all("")), x.may},
			{"a middle one" + few(x), list(all("f"), r, all("w"), all("")), x.may},
			{"a last one" + few(x), list(all("e"), all("f"), r, all("")), x.may},
			{"Else" + few(x), list(all("f"), all("w"), filled(rule("", drop(), x.other, x.kids...), "f")), x.may},
		})
	}
	wantOnes(t, []one{
		{"a leaf, whatever is done with elements", list(filled(rule("r", keep(), drop()), ""), all("")), 1},
		{"an element, whatever its own rule keeps", list(filled(rule("r", drop(), keep()), "s"), rule("s", drop(), drop()), all("")), 1},
	})
}
