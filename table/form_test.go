package table_test

import (
	"fmt"
	"slices"
	"testing"

	"redline/api"
)

// wide is a schema whose rules, and Else, keep, and have Kids, so that each part of them can be changed by itself.
func wide() api.Schema {
	s := plain("a", "m", "z")
	for _, r := range parts(&s) {
		r.Kids = []api.Pair{on("b", keep()), on("n", drop()), on("p", keep()), on("y", lift())}
	}
	s.Rules = append(s.Rules[:2:2], all("p"), s.Rules[2])
	return s
}

// roles are the acts that each rule of wide has, by what they are for.
func roles() map[string]func(r *api.Rule) *api.Act {
	return map[string]func(r *api.Rule) *api.Act{
		"Text":        func(r *api.Rule) *api.Act { return &r.Text },
		"Other":       func(r *api.Rule) *api.Act { return &r.Other },
		"a first Kid": func(r *api.Rule) *api.Act { return &r.Kids[0].Act },
		"a middle":    func(r *api.Rule) *api.Act { return &r.Kids[1].Act },
		"a last":      func(r *api.Rule) *api.Act { return &r.Kids[3].Act },
	}
}

// eachPart makes a change in each of the rules that have Kids, one schema each.
func eachPart(s api.Schema, change func(r *api.Rule), look func(name string, s api.Schema)) {
	for i, r := range parts(&s) {
		if len(r.Kids) > 0 {
			look(fmt.Sprintf("rule %d", i), changed(s, func(s *api.Schema) { change(parts(s)[i]) }))
		}
	}
}

func mays(t *testing.T, what any) func(string, api.Schema) {
	return func(name string, s api.Schema) {
		t.Helper()
		wantMay(t, name+", "+few(what), s, 0)
	}
}

func nots(t *testing.T, what any) func(string, api.Schema) {
	return func(name string, s api.Schema) {
		t.Helper()
		wantNot(t, name+", "+few(what), s)
	}
}

// P15.2: schemas that may be, of no rule, of one, and of many; the zero one may not.
func TestMay(t *testing.T) {
	wantMay(t, "no rules", plain(), 0)
	wantMay(t, "one", plain("p"), 0)
	wantMay(t, "wide", wide(), 0)
	wantMay(t, "page", page(), 3)
	wantMay(t, "full", full(), api.MaxRules+1)
	wantNot(t, "zero", api.Schema{})
}

// P15.2: at most MaxRules Rules, and Kids of each rule.
func TestMany(t *testing.T) {
	for _, many := range []int{0, 1, 2, 31, api.MaxRules, api.MaxRules + 1, 34, 64, 256, 257, 1 << 16} {
		rules := plain(rows(many)...)
		kids := func(r *api.Rule) {
			r.Kids = nil
			for _, kind := range rows(many) {
				r.Kids = append(r.Kids, on(kind, keep()))
			}
		}
		if many <= api.MaxRules {
			mays(t, many)("rules", rules)
			eachPart(wide(), kids, mays(t, many))
		} else {
			nots(t, many)("rules", rules)
			eachPart(wide(), kids, nots(t, many))
		}
	}
}

// P15.2: the Types of Rules, and of Kids, are names: of 1 to MaxVal bytes, each one that may be.
func TestTypes(t *testing.T) {
	for _, name := range good() {
		mays(t, name)("rule", plain(name))
		eachPart(wide(), func(r *api.Rule) { r.Kids = []api.Pair{on(name, keep())} }, mays(t, name))
	}
	for _, name := range append(strange(), "") {
		nots(t, name)("rule", plain(name))
		nots(t, name)("behind", plain("", name))
		nots(t, name)("ahead", plain(name, "zz"))
		eachPart(wide(), func(r *api.Rule) { r.Kids = []api.Pair{on(name, keep())} }, nots(t, name))
		eachPart(wide(), func(r *api.Rule) { r.Kids[3].Type = name }, nots(t, name))
	}
	// every byte there is, at each place of a name
	for c := range 256 {
		for _, name := range []string{string([]byte{byte(c)}), "m" + string([]byte{byte(c)}), "m" + string([]byte{byte(c)}) + "m"} {
			if slices.Contains([]byte("abcdefghijklmnopqrstuvwxyz0123456789-"), byte(c)) {
				mays(t, name)("byte", plain(name))
			} else {
				nots(t, name)("byte", plain(name))
			}
		}
	}
}

// P15.2: Types rise: none is the same as one ahead of it, or stands ahead of that.
func TestRise(t *testing.T) {
	for _, x := range []struct {
		kinds []string
		may   bool
	}{
		{[]string{"a", "b"}, true},
		{[]string{"a", "aa", "ab", "b", "ba"}, true},
		{[]string{"-", "0", "9", "a", "z"}, true},
		{[]string{"a", "a-", "a0", "aa"}, true},
		{[]string{"a10", "a9"}, true},
		{[]string{"a", "a"}, false},
		{[]string{"b", "a"}, false},
		{[]string{"a", "b", "b"}, false},
		{[]string{"a", "c", "b"}, false},
		{[]string{"a", "b", "a"}, false},
		{[]string{"b", "a", "c"}, false},
		{[]string{"aa", "a"}, false},
		{[]string{"a", "0"}, false},
		{[]string{"0", "-"}, false},
		{[]string{"a9", "a10"}, false},
	} {
		kids := func(r *api.Rule) {
			r.Kids = nil
			for _, kind := range x.kinds {
				r.Kids = append(r.Kids, on(kind, keep()))
			}
		}
		if x.may {
			mays(t, x.kinds)("rules", plain(x.kinds...))
			eachPart(wide(), kids, mays(t, x.kinds))
		} else {
			nots(t, x.kinds)("rules", plain(x.kinds...))
			eachPart(wide(), kids, nots(t, x.kinds))
		}
	}
}

// P15.2: Else has no Type, be it one that a rule has, another name, or none.
func TestElse(t *testing.T) {
	for _, kind := range append(strange(), good()...) {
		nots(t, kind)("Else", changed(wide(), func(s *api.Schema) { s.Else.Type = kind }))
		nots(t, kind)("Else alone", changed(plain(), func(s *api.Schema) { s.Else.Type = kind }))
	}
}

// P15.2: each of Text, Other and a Kid's Act is one of the four actions, but Text is not Lift.
func TestActions(t *testing.T) {
	for role, of := range roles() {
		do := func(a api.Act) func(r *api.Rule) { return func(r *api.Rule) { *of(r) = a } }
		for _, a := range []api.Act{keep(), drop(), wrap("p")} {
			eachPart(wide(), do(a), mays(t, role+few(a)))
		}
		if role == "Text" {
			eachPart(wide(), do(lift()), nots(t, role+" lifted"))
		} else {
			eachPart(wide(), do(lift()), mays(t, role+" lifted"))
		}
		for _, i := range append(odd(), 0, 5, 6) {
			eachPart(wide(), do(api.Act{Do: i}), nots(t, role+few(i)))
			eachPart(wide(), do(api.Act{Do: i, Type: "p"}), nots(t, role+few(i)+" with a type"))
		}
	}
}

// P15.2: an Act's Type is a name with Wrap, and empty with all others.
func TestActTypes(t *testing.T) {
	for role, of := range roles() {
		do := func(a api.Act) func(r *api.Rule) { return func(r *api.Rule) { *of(r) = a } }
		for _, name := range strange() {
			eachPart(wide(), do(wrap(name)), nots(t, role+few(name)))
		}
		eachPart(wide(), do(wrap("")), nots(t, role+" in nothing"))
		for _, i := range []int{api.Keep, api.Drop, api.Lift} {
			for _, name := range []string{"p", "a", "q", "P", "\x00"} {
				eachPart(wide(), do(api.Act{Do: i, Type: name}), nots(t, role+few(i)+name))
			}
		}
	}
	for _, name := range good() {
		// what is wrapped is kept by all rules of wide; a rule that wraps in its own type would not keep it there
		eachPart(wide(), func(r *api.Rule) {
			r.Text, r.Kids = wrap(name), []api.Pair{on(name, keep())}
			if r.Type == name || r.Type == "" {
				r.Text = keep()
			}
		}, mays(t, name))
	}
}

// P15.2: Fill is one of the three, FillType a name with ElemFill, and empty with the others.
func TestFill(t *testing.T) {
	fill := func(how int, kind string) func(r *api.Rule) {
		return func(r *api.Rule) { r.Fill, r.FillType = how, kind }
	}
	eachPart(wide(), fill(api.NoFill, ""), func(name string, s api.Schema) { wantMay(t, name, s, 0) })
	eachPart(wide(), fill(api.TextFill, ""), func(name string, s api.Schema) { wantMay(t, name, s, 1) })
	eachPart(wide(), fill(api.ElemFill, "p"), func(name string, s api.Schema) { wantMay(t, name, s, 1) })
	for _, i := range append(odd(), 3, 4, -2) {
		eachPart(wide(), fill(i, ""), nots(t, i))
		eachPart(wide(), fill(i, "p"), nots(t, i))
	}
	for _, kind := range append(strange(), "") {
		eachPart(wide(), fill(api.ElemFill, kind), nots(t, kind))
	}
	for _, kind := range append(strange(), "p", "a", "q") {
		eachPart(wide(), fill(api.NoFill, kind), nots(t, kind))
		eachPart(wide(), fill(api.TextFill, kind), nots(t, kind))
	}
	for _, kind := range good() {
		s := changed(plain("rule"), func(s *api.Schema) { s.Rules[0].Fill, s.Rules[0].FillType = api.ElemFill, kind })
		wantMay(t, kind, s, 1)
	}
}

// orders are all orders of some numbers.
func orders(l []int) [][]int {
	if len(l) == 0 {
		return [][]int{nil}
	}
	var out [][]int
	for i, first := range l {
		for _, rest := range orders(slices.Delete(slices.Clone(l), i, i+1)) {
			out = append(out, append([]int{first}, rest...))
		}
	}
	return out
}

// P15.2: Order has each class once, in whatever order.
func TestOrder(t *testing.T) {
	for _, l := range orders([]int{1, 2, 3, 4, 5, 6}) {
		s := plain("p")
		s.Order = [6]int(l)
		wantMay(t, "in any order", s, 0)
		for at := range l {
			for _, x := range []int{0, 7, -1, l[(at+1)%6], l[(at+5)%6], l[(at+3)%6]} {
				wrong := s
				wrong.Order[at] = x
				wantNot(t, "in no order", wrong)
			}
		}
	}
	for at := range 6 {
		for _, x := range append(odd(), 8, 1<<32+at+1, -at-1) {
			s := plain("p")
			s.Order[at] = x
			wantNot(t, "an odd class", s)
		}
	}
	for _, l := range [][6]int{{}, {1, 1, 1, 1, 1, 1}, {0, 1, 2, 3, 4, 5}, {2, 3, 4, 5, 6, 7}, {6, 6, 5, 4, 3, 2}, {1, 2, 3, 4, 5, 0}, {3, 3, 3, 4, 4, 4}, {1, 1, 1, 6, 6, 6}} {
		s := plain("p")
		s.Order = l
		wantNot(t, "not each class", s)
	}
}

// P15.2: Cap is 1 to MaxCap.
func TestCap(t *testing.T) {
	for _, i := range []int{1, 2, 100, 1 << 16, api.MaxCap - 1, api.MaxCap} {
		wantMay(t, "Cap", changed(wide(), func(s *api.Schema) { s.Cap = i }), 0)
	}
	for _, i := range append(odd(), 0) {
		wantNot(t, "Cap", changed(wide(), func(s *api.Schema) { s.Cap = i }))
	}
}
