package table_test

import (
	"fmt"
	"testing"

	"redline/api"
)

// fills is a schema whose rules keep all, and are filled, Else with what stands of "": with "t" a leaf, with "" nothing, else elements of that type.
func fills(with map[string]string) api.Schema {
	s := plain()
	for _, kind := range []string{"a", "b", "c", "d"} {
		if _, is := with[kind]; is {
			s.Rules = append(s.Rules, all(kind))
		}
	}
	for _, r := range parts(&s) {
		switch kind := with[r.Type]; kind {
		case "":
		case "t":
			r.Fill = api.TextFill
		default:
			r.Fill, r.FillType = api.ElemFill, kind
		}
	}
	return s
}

// P15.2: fills end: how many nodes are put in, one in the other, at the most.
func TestFills(t *testing.T) {
	for i, x := range []struct {
		with map[string]string
		want int
	}{
		{nil, 0},
		{map[string]string{"a": "", "b": ""}, 0},
		{map[string]string{"": "t"}, 1},
		{map[string]string{"": "t", "a": ""}, 1},
		{map[string]string{"a": "t"}, 1},
		{map[string]string{"a": "t", "b": "t", "": "t"}, 1},
		{map[string]string{"a": "x"}, 1},
		{map[string]string{"a": "x", "": "t"}, 2},
		{map[string]string{"a": "b", "b": ""}, 1},
		{map[string]string{"a": "b", "b": "t"}, 2},
		{map[string]string{"b": "a", "a": "t"}, 2},
		{map[string]string{"": "a", "a": ""}, 1},
		{map[string]string{"": "a", "a": "t"}, 2},
		{map[string]string{"": "a", "a": "b", "b": "c", "c": "d", "d": "t"}, 5},
		{map[string]string{"": "a", "a": "b", "b": "c", "c": "d", "d": ""}, 4},
		{map[string]string{"a": "b", "b": "c", "c": "d", "d": "x", "": "t"}, 5},
		{map[string]string{"a": "b", "b": "c", "c": "d", "d": "x", "": ""}, 4},
		{map[string]string{"d": "c", "c": "b", "b": "a", "a": "t"}, 4},
		{map[string]string{"a": "d", "b": "d", "c": "d", "d": "t", "": "d"}, 2},
		{map[string]string{"a": "x", "b": "x", "c": "y", "d": "z", "": "t"}, 2},
		{map[string]string{"a": "b", "b": "t", "c": "d", "d": ""}, 2},
		{map[string]string{"a": "b", "b": "d", "c": "t", "d": "t"}, 3},
	} {
		wantMay(t, fmt.Sprint(i), fills(x.with), x.want)
	}
}

// P15.2: no fill comes back to a rule that was met: not to the one it began with, nor to one behind that, be it a type's or Else.
func TestRings(t *testing.T) {
	for i, with := range []map[string]string{
		{"a": "a"},
		{"d": "d", "a": "t", "b": "a"},
		{"": "x"},
		{"": "a"},
		{"a": "b", "b": "a"},
		{"a": "b", "b": "c", "c": "a"},
		{"a": "b", "b": "c", "c": "d", "d": "a"},
		{"a": "b", "b": "c", "c": "d", "d": "b"},
		{"a": "b", "b": "c", "c": "d", "d": "d"},
		{"a": "b", "b": "b"},
		{"a": "x", "": "x"},
		{"a": "x", "": "a"},
		{"a": "b", "b": "x", "": "a"},
		{"a": "b", "b": "x", "": "b"},
		{"a": "b", "b": "x", "": "y"},
		{"": "a", "a": "b", "b": "a"},
		{"": "a", "a": "a"},
		{"": "a", "a": "b", "b": "c", "c": "d", "d": "x"},
		{"a": "b", "b": "c", "c": "d", "d": "x", "": "d"},
		{"a": "t", "b": "", "c": "c", "d": "a"},
		{"a": "b", "b": "d", "c": "d", "d": "c", "": "t"},
	} {
		s := fills(with)
		if with[""] == "a" && len(with) == 1 {
			s.Rules = nil
		}
		wantNot(t, fmt.Sprint(i), s)
	}
}

// P15.2: fills go through all rules that there may be, and end, or come back to any of them.
func TestLongFills(t *testing.T) {
	kinds := rows(api.MaxRules + 1)
	for many := range api.MaxRules + 1 {
		s := plain(kinds[:many]...)
		for i := range s.Rules {
			s.Rules[i].Fill, s.Rules[i].FillType = api.ElemFill, kinds[i+1]
		}
		wantMay(t, "nothing at the end", s, many)
		s.Else.Fill = api.TextFill
		wantMay(t, "a leaf at the end", s, many+1)
		s.Else.Fill = api.ElemFill
		for _, kind := range append(kinds[:many:many], "x") {
			s.Else.FillType = kind
			wantNot(t, "back to "+kind, s)
		}
		if many > 0 {
			s.Else.Fill, s.Else.FillType = api.TextFill, ""
			s.Rules[many-1].Fill, s.Rules[many-1].FillType = api.TextFill, ""
			wantMay(t, "a leaf in the last rule", s, many)
		}
	}
	// and the other way round: the first rule comes last
	s := plain(kinds[:api.MaxRules]...)
	for i := range s.Rules[1:] {
		s.Rules[i+1].Fill, s.Rules[i+1].FillType = api.ElemFill, kinds[i]
	}
	wantMay(t, "backwards", s, api.MaxRules-1)
	s.Rules[0].Fill, s.Rules[0].FillType = api.ElemFill, kinds[api.MaxRules-1]
	wantNot(t, "all in a ring", s)
}
