package table_test

import (
	"maps"
	"slices"
	"testing"

	"redline/api"
	"redline/table"
)

// The chapter's words, sentence by sentence, as a schema is to be read; nothing of the package is asked here.

func ruleBy(s api.Schema, kind string) (int, api.Rule) {
	for i, r := range s.Rules {
		if r.Type == kind {
			return i, r
		}
	}
	return -1, s.Else
}

// doneBy is what a rule does with a leaf, or with an element of a type.
func doneBy(r api.Rule, isLeaf bool, kind string) api.Act {
	if isLeaf {
		return r.Text
	}
	for _, k := range r.Kids {
		if k.Type == kind {
			return k.Act
		}
	}
	return r.Other
}

func namesBy(s api.Schema) []string {
	var out []string
	for _, r := range append(slices.Clone(s.Rules), s.Else) {
		out = append(out, r.Type, r.Text.Type, r.Other.Type, r.FillType)
		for _, k := range r.Kids {
			out = append(out, k.Type, k.Act.Type)
		}
	}
	slices.Sort(out)
	out = slices.Compact(out)
	return slices.DeleteFunc(out, func(s string) bool { return s == "" })
}

// agreesBy asks the rows of 'A schema may be' that stand between two rules: what is wrapped, and what is filled with.
func agreesBy(s api.Schema) bool {
	kinds := append(namesBy(s), "")
	for _, r := range append(slices.Clone(s.Rules), s.Else) {
		for i := -1; i < len(kinds); i++ {
			isLeaf, kind := i < 0, kinds[max(i, 0)]
			if a := doneBy(r, isLeaf, kind); a.Do == api.Wrap {
				if _, w := ruleBy(s, a.Type); doneBy(w, isLeaf, kind).Do != api.Keep {
					return false
				}
				if doneBy(r, false, a.Type).Do != api.Keep {
					return false
				}
			}
		}
		if r.Fill == api.TextFill && r.Text.Do != api.Keep {
			return false
		}
		if r.Fill == api.ElemFill && doneBy(r, false, r.FillType).Do != api.Keep {
			return false
		}
	}
	return true
}

// fillsBy goes on from a rule till nothing is filled, or till one is met that was met: then it is -1.
func fillsBy(s api.Schema, at int, met map[int]bool) int {
	r := s.Else
	if at >= 0 {
		r = s.Rules[at]
	}
	if met[at] {
		return -1
	}
	if r.Fill != api.ElemFill {
		return r.Fill
	}
	next, _ := ruleBy(s, r.FillType)
	met = maps.Clone(met)
	met[at] = true
	many := fillsBy(s, next, met)
	if many < 0 {
		return -1
	}
	return many + 1
}

// mostBy is what Fills tells of a schema whose parts may each be, or -1, if it may not be.
func mostBy(s api.Schema) int {
	if !agreesBy(s) {
		return -1
	}
	most := 0
	for at := -1; at < len(s.Rules); at++ {
		many := fillsBy(s, at, map[int]bool{})
		if many < 0 {
			return -1
		}
		most = max(most, many)
	}
	return most
}

// wantWords looks that a schema is told of as the chapter's words say, and tells whether it may be.
func wantWords(t *testing.T, s api.Schema) bool {
	t.Helper()
	many, e := table.Fills(s)
	want := mostBy(s)
	if want < 0 && (many != 0 || e != api.ErrTable) || want >= 0 && (many != want || e != api.OK) {
		t.Fatalf("%s: got %d, %d, want %d", few(s), many, e, want)
	}
	if table.Check(s) != e {
		t.Fatalf("%s: Check tells another error", few(s))
	}
	if l := table.Names(s); !slices.Equal(l, namesBy(s)) {
		t.Fatalf("%s: got %v", few(s), l)
	}
	return want >= 0
}

// someRules are all rules of a type that do something with leaves, with elements of a, of b, and with all others.
func someRules(kind string) []api.Rule {
	acts := []api.Act{keep(), drop(), wrap("a"), wrap("b")}
	var out []api.Rule
	for _, text := range acts {
		for _, other := range append(acts, lift()) {
			for a := range 4 {
				for b := range 4 {
					r := rule(kind, text, other)
					if a > 0 {
						r.Kids = append(r.Kids, on("a", []api.Act{keep(), drop(), wrap("b")}[a-1]))
					}
					if b > 0 {
						r.Kids = append(r.Kids, on("b", []api.Act{keep(), lift(), wrap("a")}[b-1]))
					}
					out = append(out, r)
				}
			}
		}
	}
	return out
}

// P15.2: all schemas of one rule and Else whose parts may each be.
func TestWords(t *testing.T) {
	mayBe := 0
	for _, a := range someRules("a") {
		for _, other := range someRules("") {
			s := plain()
			s.Rules, s.Else = []api.Rule{a}, other
			if wantWords(t, s) {
				mayBe++
			}
		}
	}
	if mayBe < 100 {
		t.Fatalf("only %d may be", mayBe)
	}
}

// P15.2: all schemas of three rules and Else that keep all, and fill with a leaf, or with elements of each type.
func TestWordsFills(t *testing.T) {
	kinds := []string{"", "t", "a", "b", "c", "x"}
	mayBe := 0
	for i := range len(kinds) * len(kinds) * len(kinds) * len(kinds) {
		with := map[string]string{}
		for _, kind := range []string{"a", "b", "c", ""} {
			with[kind] = kinds[i%len(kinds)]
			i /= len(kinds)
		}
		if wantWords(t, fills(with)) {
			mayBe++
		}
	}
	if mayBe < 100 {
		t.Fatalf("only %d may be", mayBe)
	}
}

// dice throw numbers, the same ones each time.
type dice uint64

func (d *dice) throw(many int) int {
	*d = *d*6364136223846793005 + 1442695040888963407
	return int(uint64(*d) >> 33 % uint64(many))
}

func (d *dice) act(leaf bool) api.Act {
	acts := []api.Act{drop(), wrap("a"), wrap("b"), wrap("c"), wrap("d"), lift()}
	if leaf {
		acts = acts[:5]
	}
	if d.throw(5) < 3 {
		return keep()
	}
	return acts[d.throw(len(acts))]
}

func (d *dice) rule(kind string) api.Rule {
	r := rule(kind, d.act(true), d.act(false))
	for _, kind := range []string{"a", "b", "c", "d", "e"} {
		if d.throw(2) == 0 {
			r.Kids = append(r.Kids, on(kind, d.act(false)))
		}
	}
	switch d.throw(3) {
	case 0:
		return filled(r, "")
	case 1:
		return filled(r, string(rune('a'+d.throw(5))))
	}
	return r
}

func (d *dice) schema() api.Schema {
	s := plain()
	for _, kind := range []string{"a", "b", "c"} {
		if d.throw(3) > 0 {
			s.Rules = append(s.Rules, d.rule(kind))
		}
	}
	s.Else = d.rule("")
	return s
}

// P15.2: schemas of up to three rules, with all that rules can have, as the dice say.
func TestWordsDice(t *testing.T) {
	d := dice(1)
	mayBe := 0
	for range 100000 {
		if wantWords(t, d.schema()) {
			mayBe++
		}
	}
	if mayBe < 1000 {
		t.Fatalf("only %d may be", mayBe)
	}
}

// P15.1: what rules, and acts, are told of such schemas.
func TestWordsLook(t *testing.T) {
	d := dice(2)
	for range 20000 {
		s := d.schema()
		for _, kind := range []string{"", "a", "b", "c", "d", "e"} {
			_, r := ruleBy(s, kind)
			wantRule(t, s, kind, r)
			for _, k := range []api.Node{leaf("a"), untyped(), elem("a"), elem("b"), elem("c"), elem("d"), elem("e"), elem("f")} {
				of := ""
				if len(k.Props) > 0 {
					of = k.Props[0].V
				}
				if a := table.ActOf(r, k); a != doneBy(r, k.Leaf, of) {
					t.Fatalf("%s: %s: got %v", few(r), few(k), a)
				}
			}
		}
	}
}
