package table_test

import (
	"slices"
	"testing"

	"redline/api"
	"redline/table"
)

// spots are all places of a rule where a name may stand.
func spots() map[string]func(r *api.Rule, name string) {
	return map[string]func(r *api.Rule, name string){
		"Type":         func(r *api.Rule, name string) { r.Type = name },
		"Text":         func(r *api.Rule, name string) { r.Text.Type = name },
		"Other":        func(r *api.Rule, name string) { r.Other.Type = name },
		"Kids":         func(r *api.Rule, name string) { r.Kids = append(r.Kids, on(name, keep())) },
		"Kids' Act":    func(r *api.Rule, name string) { r.Kids = append(r.Kids, on("", wrap(name))) },
		"FillType":     func(r *api.Rule, name string) { r.FillType = name },
		"a later Kid":  func(r *api.Rule, name string) { r.Kids = append(r.Kids, on("", keep()), on(name, drop())) },
		"a later Act":  func(r *api.Rule, name string) { r.Kids = append(r.Kids, on("", keep()), on("", wrap(name))) },
		"a wrap":       func(r *api.Rule, name string) { r.Text = wrap(name) },
		"other's wrap": func(r *api.Rule, name string) { r.Other = wrap(name) },
		"a fill":       func(r *api.Rule, name string) { r.Fill, r.FillType = api.ElemFill, name },
		"a text fill":  func(r *api.Rule, name string) { r.Fill, r.FillType = api.TextFill, name },
	}
}

// P15.1: a name is told, wherever it stands, be it of the first, a middle, or the last rule, or of Else.
func TestNamesPlaces(t *testing.T) {
	for at := range 4 {
		for spot, put := range spots() {
			s := plain("", "", "")
			put(parts(&s)[at], "n")
			wantNames(t, spot, s, "n")
			s = plain("a", "p", "z")
			put(parts(&s)[at], "n")
			want := []string{"a", "n", "p", "z"}
			if spot == "Type" && at < 3 {
				want = slices.Delete([]string{"a", "p", "z"}, at, at+1)
				want = append(want, "n")
				slices.Sort(want)
			}
			wantNames(t, spot, s, want...)
		}
	}
}

// P15.1: all of them, in order, none twice.
func TestNames(t *testing.T) {
	wantNames(t, "page", page(), "doc", "li", "list", "p", "x")
	wantNames(t, "full", full(), rows(api.MaxRules+1)...)
	wantNames(t, "one", plain("p"), "p")
	s := plain("m")
	s.Rules[0].Text, s.Rules[0].Other, s.Rules[0].FillType = wrap("k"), wrap("a"), "m"
	s.Rules[0].Kids = []api.Pair{on("z", wrap("a")), on("b", wrap("z"))}
	s.Else.Text, s.Else.Other, s.Else.FillType = wrap("m"), wrap("l"), "c"
	s.Else.Kids = []api.Pair{on("b", wrap("b")), on("y", wrap("d"))}
	wantNames(t, "each place", s, "a", "b", "c", "d", "k", "l", "m", "y", "z")
}

// P15.1: the order is that of the bytes: `-` ahead of 0 to 9, these ahead of a to z, one that begins another one ahead of it.
func TestNamesOrder(t *testing.T) {
	want := []string{"-", "--", "-0", "0", "0-", "00", "09", "10", "9", "a", "a-", "a0", "a00", "aa", "ab", "az", "b", "z", "z-", "zz"}
	for turn := range want {
		wantNames(t, "turned", plain(slices.Concat(want[turn:], want[:turn])...), want...)
	}
	back := slices.Clone(want)
	slices.Reverse(back)
	wantNames(t, "backwards", plain(slices.Concat(back, want, back)...), want...)
}

// P15.1: no names at all; the empty one is none.
func TestNamesNone(t *testing.T) {
	for _, s := range []api.Schema{{}, plain(), plain(""), plain("", "", ""), {Else: api.Rule{Kids: []api.Pair{on("", api.Act{})}}}, {Rules: []api.Rule{{Kids: []api.Pair{{}, {}}}}}} {
		wantNames(t, "none", s)
	}
}

// P15.1, wrong inputs: schemas that may not be have names, too: whatever stands there, but the empty one.
func TestNamesWrong(t *testing.T) {
	for _, x := range append(strange(), good()...) {
		s := page()
		s.Rules[1].FillType = x
		want := append(table.Names(page()), x)
		slices.Sort(want)
		wantNames(t, few(x), s, slices.Compact(want)...)
	}
	s := plain(slices.Repeat([]string{"b", "a", ""}, 1<<15)...)
	wantNames(t, "many of few", s, "a", "b")
	s.Cap, s.Order, s.Else.Fill = -1, [6]int{}, 9
	wantNames(t, "nothing right", s, "a", "b")
	back := rows(1 << 16)
	slices.Reverse(back)
	wantNames(t, "many", plain(back...), rows(1<<16)...)
}
