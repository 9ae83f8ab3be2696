package table_test

import (
	"testing"

	"redline/api"
	"redline/node"
	"redline/table"
)

// good schemas, as the dice say, and those of the tables.
func someMayBe() []api.Schema {
	out := []api.Schema{plain(), plain("a", "b"), wide(), page(), full()}
	for d, i := dice(3), 0; i < 30000; i++ {
		if s := d.schema(); table.Check(s) == api.OK {
			out = append(out, s)
		}
	}
	return out
}

// kinds are types that a schema may have to do with, "" for none, and one that is named nowhere.
func kinds(s api.Schema) []string { return append(table.Names(s), "", "nowhere") }

func kid(kind string) api.Node {
	if kind == "" {
		return untyped(leaf("a"))
	}
	return elem(kind, leaf("a"))
}

// P15.3: what is wrapped is kept where it is then, and so is what it is wrapped in; asked of leaves and elements of all types, in elements of all types.
func TestWrappedIsKept(t *testing.T) {
	wraps := 0
	for _, s := range someMayBe() {
		for _, kind := range kinds(s) {
			kids := []api.Node{leaf("a"), leaf("")}
			for _, k := range kinds(s) {
				kids = append(kids, kid(k))
			}
			for _, k := range kids {
				r := table.RuleOf(s, kind)
				a := table.ActOf(r, k)
				if a.Do != api.Wrap {
					continue
				}
				wraps++
				around := elem(a.Type, k)
				if table.ActOf(r, around) != keep() {
					t.Fatalf("%s: %q does not keep %q", few(s), kind, a.Type)
				}
				if table.ActOf(table.RuleOf(s, node.Type(around)), around.Kids[0]) != keep() {
					t.Fatalf("%s: %q does not keep %s", few(s), a.Type, few(k))
				}
			}
		}
	}
	if wraps < 1000 {
		t.Fatalf("only %d are wrapped", wraps)
	}
}

// fill puts into an element without Kids what its rule fills it with, and into that, and so on; it tells how many nodes were put in.
func fill(t *testing.T, s api.Schema, n api.Node) int {
	many := 0
	for {
		r := table.RuleOf(s, node.Type(n))
		if n.Leaf || r.Fill == api.NoFill {
			return many
		}
		in := leaf("")
		if r.Fill == api.ElemFill {
			in = elem(r.FillType)
		}
		if table.ActOf(r, in) != keep() {
			t.Fatalf("%s: %q does not keep what it is filled with", few(s), node.Type(n))
		}
		if many++; many > 2*api.MaxRules {
			t.Fatalf("%s: fills do not end", few(s))
		}
		n = in
	}
}

// P15.2: filling an element till nothing is to be filled puts in as many nodes as Fills says, of some type, and of none more.
func TestFilled(t *testing.T) {
	for _, s := range someMayBe() {
		most := 0
		for _, kind := range kinds(s) {
			n := untyped()
			if kind != "" {
				n = elem(kind)
			}
			most = max(most, fill(t, s, n))
		}
		if many, e := table.Fills(s); many != most || e != api.OK {
			t.Fatalf("%s: got %d, %d, want %d", few(s), many, e, most)
		}
	}
}

// P15.2: whether a schema may be does not hang on what it is called: other names in the same order tell the same.
func TestRenamed(t *testing.T) {
	d := dice(4)
	for range 20000 {
		s := d.schema()
		other := own(s)
		for _, r := range parts(&other) {
			for _, name := range []*string{&r.Type, &r.Text.Type, &r.Other.Type, &r.FillType} {
				rename(name)
			}
			for i := range r.Kids {
				rename(&r.Kids[i].Type)
				rename(&r.Kids[i].Act.Type)
			}
		}
		many, e := table.Fills(s)
		if n, f := table.Fills(other); n != many || f != e {
			t.Fatalf("%s: got %d, %d, want %d, %d", few(other), n, f, many, e)
		}
	}
}

func rename(name *string) {
	if *name != "" {
		*name = map[string]string{"a": "-", "b": "0", "c": "00", "d": "d", "e": "z9"}[*name]
	}
}

// R6: the answer is the same however often it is asked, whatever order a map is gone through in.
func TestAgain(t *testing.T) {
	for _, s := range []api.Schema{page(), full(), wide(), plain(rows(1000)...)} {
		names := table.Names(s)
		many, e := table.Fills(s)
		for range 50 {
			wantNames(t, "again", s, names...)
			if n, f := table.Fills(s); n != many || f != e || table.Check(s) != e {
				t.Fatalf("got %d, %d", n, f)
			}
		}
	}
}
