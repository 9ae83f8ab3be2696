package table_test

import (
	"fmt"
	"math"
	"slices"
	"strings"
	"testing"

	"redline/api"
	"redline/table"
)

func keep() api.Act { return api.Act{Do: api.Keep} }

func drop() api.Act { return api.Act{Do: api.Drop} }

func lift() api.Act { return api.Act{Do: api.Lift} }

func wrap(kind string) api.Act { return api.Act{Do: api.Wrap, Type: kind} }

// on is what is done with children of a type.
func on(kind string, a api.Act) api.Pair { return api.Pair{Type: kind, Act: a} }

func leaf(s string) api.Node { return api.Node{Leaf: true, Text: []rune(s)} }

// elem is an element of a type; untyped is one without.
func elem(kind string, kids ...api.Node) api.Node {
	return api.Node{Props: []api.Prop{{K: "type", V: kind}}, Kids: kids}
}

func untyped(kids ...api.Node) api.Node { return api.Node{Kids: kids} }

// all is a rule that keeps everything and fills nothing.
func all(kind string) api.Rule { return api.Rule{Type: kind, Text: keep(), Other: keep()} }

// plain is a schema of such rules, which may be.
func plain(kinds ...string) api.Schema {
	s := api.Schema{Else: all(""), Order: [6]int{1, 2, 3, 4, 5, 6}, Cap: 100}
	for _, kind := range kinds {
		s.Rules = append(s.Rules, all(kind))
	}
	return s
}

// page is a schema that may be, with each action and each fill in it.
func page() api.Schema {
	return api.Schema{
		Rules: []api.Rule{
			{Type: "doc", Text: wrap("p"), Other: lift(), Kids: []api.Pair{on("li", wrap("list")), on("list", keep()), on("p", keep()), on("x", drop())}, Fill: api.ElemFill, FillType: "p"},
			{Type: "li", Text: wrap("p"), Other: wrap("p"), Kids: []api.Pair{on("p", keep())}, Fill: api.ElemFill, FillType: "p"},
			{Type: "list", Text: drop(), Other: drop(), Kids: []api.Pair{on("li", keep())}, Fill: api.ElemFill, FillType: "li"},
			{Type: "p", Text: keep(), Other: keep(), Fill: api.TextFill},
		},
		Else:  api.Rule{Text: keep(), Other: wrap("p"), Kids: []api.Pair{on("p", keep())}},
		Order: [6]int{6, 4, 2, 1, 3, 5},
		Cap:   api.MaxCap,
	}
}

// rows are so many names that rise.
func rows(many int) []string {
	var out []string
	for i := range many {
		out = append(out, fmt.Sprintf("t%05d", i))
	}
	return out
}

// full is a schema with as many rules and Kids as there may be, which wraps, and fills as far as fills can go.
func full() api.Schema {
	s := plain(rows(api.MaxRules)...)
	s.Else.Fill = api.TextFill
	for i := range s.Rules {
		r := &s.Rules[i]
		for _, kind := range rows(api.MaxRules) {
			r.Kids = append(r.Kids, on(kind, keep()))
		}
		r.Fill, r.FillType = api.ElemFill, fmt.Sprintf("t%05d", i+1)
	}
	return s
}

// parts are all rules of a schema, Else behind the others.
func parts(s *api.Schema) []*api.Rule {
	var out []*api.Rule
	for i := range s.Rules {
		out = append(out, &s.Rules[i])
	}
	return append(out, &s.Else)
}

// own is the same schema, with lists of its own.
func own(s api.Schema) api.Schema {
	s.Rules = slices.Clone(s.Rules)
	for _, r := range parts(&s) {
		r.Kids = slices.Clone(r.Kids)
	}
	return s
}

// changed is a schema with a change, which leaves the one that it is made of as it is.
func changed(s api.Schema, how func(s *api.Schema)) api.Schema {
	s = own(s)
	how(&s)
	return s
}

// odd are numbers that are no action, no fill, no class, and no Cap.
func odd() []int {
	return []int{math.MinInt, math.MinInt + 1, -1 << 32, -1<<32 + 1, -256 + 2, -6, -1, api.MaxCap + 1, 1 << 32, 1<<32 + 1, 1<<32 + 4, math.MaxInt - 1, math.MaxInt}
}

// strange are texts that are no names, but the empty one.
func strange() []string {
	out := []string{"P", "a b", "a_", "a.b", "ä", "\x00", "a\x00", "\xff", "a\n", "²", strings.Repeat("a", api.MaxVal+1), strings.Repeat("a", 1<<20)}
	for _, c := range []byte{'a' - 1, 'z' + 1, '0' - 1, '9' + 1, '-' - 1, '-' + 1} {
		out = append(out, string([]byte{c}), "a"+string([]byte{c}), string([]byte{c})+"a", "a"+string([]byte{c})+"b")
	}
	return out
}

// good are names.
func good() []string {
	out := []string{"a", "z", "0", "9", "-", "--", "p-1", "0a", "type", strings.Repeat("z", api.MaxVal), strings.Repeat("-", api.MaxVal-1)}
	for c := range 256 {
		if strings.ContainsRune("abcdefghijklmnopqrstuvwxyz0123456789-", rune(c)) {
			out = append(out, string([]byte{byte(c)}), "m"+string([]byte{byte(c)}))
		}
	}
	return out
}

// few writes down what may be very long.
func few(x any) string {
	s := fmt.Sprintf("%+v", x)
	return s[:min(len(s), 400)]
}

// wantMay looks that a schema may be, and how far its fills go, wantNot that it may not be.
func wantMay(t *testing.T, name string, s api.Schema, fills int) {
	t.Helper()
	if e := table.Check(s); e != api.OK {
		t.Fatalf("%s: Check of %s: got %d", name, few(s), e)
	}
	if n, e := table.Fills(s); n != fills || e != api.OK {
		t.Fatalf("%s: Fills of %s: got %d, %d, want %d", name, few(s), n, e, fills)
	}
}

func wantNot(t *testing.T, name string, s api.Schema) {
	t.Helper()
	if e := table.Check(s); e != api.ErrTable {
		t.Fatalf("%s: Check of %s: got %d", name, few(s), e)
	}
	if n, e := table.Fills(s); n != 0 || e != api.ErrTable {
		t.Fatalf("%s: Fills of %s: got %d, %d", name, few(s), n, e)
	}
}

func wantNames(t *testing.T, name string, s api.Schema, want ...string) {
	t.Helper()
	if l := table.Names(s); !slices.Equal(l, want) {
		t.Fatalf("%s: got %s, want %s", name, few(l), few(want))
	}
}

// sameRule stands here, as rules have lists, and nil is the same as empty.
func sameRule(a, b api.Rule) bool {
	return a.Type == b.Type && a.Text == b.Text && a.Other == b.Other && slices.Equal(a.Kids, b.Kids) && a.Fill == b.Fill && a.FillType == b.FillType
}

func wantRule(t *testing.T, s api.Schema, kind string, want api.Rule) {
	t.Helper()
	if r := table.RuleOf(s, kind); !sameRule(r, want) {
		t.Fatalf("of %q: got %s, want %s", few(kind), few(r), few(want))
	}
}
