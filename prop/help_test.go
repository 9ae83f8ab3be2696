package prop_test

import (
	"slices"
	"strings"
	"testing"

	"redline/api"
)

// props makes properties of keys and values, one after the other.
func props(l ...string) []api.Prop {
	var out []api.Prop
	for i := 0; i+1 < len(l); i += 2 {
		out = append(out, api.Prop{K: l[i], V: l[i+1]})
	}
	return out
}

// letters makes properties of one value whose keys are the letters from a to b.
func letters(a, b byte, v string) []api.Prop {
	var out []api.Prop
	for c := a; c <= b; c++ {
		out = append(out, api.Prop{K: string(rune(c)), V: v})
	}
	return out
}

// equal stands here so that the other calls' tests do not hang on Same.
func equal(a, b []api.Prop) bool {
	if len(a) != len(b) {
		return false
	}
	for i := range a {
		if a[i] != b[i] {
			return false
		}
	}
	return true
}

func join(lists ...[]api.Prop) []api.Prop {
	return slices.Concat(lists...)
}

// roomy is a copy of l with room behind it, and what stands in that room, to see whether anybody writes there.
func roomy(l []api.Prop) (list, room []api.Prop) {
	all := make([]api.Prop, len(l)+20)
	copy(all, l)
	return all[:len(l)], all[len(l):]
}

func wantEmpty(t *testing.T, room []api.Prop) {
	t.Helper()
	for _, p := range room {
		if p != (api.Prop{}) {
			t.Errorf("written behind an argument's end: %v", p)
		}
	}
}

func spoil(l []api.Prop) {
	for i := range l {
		l[i] = api.Prop{K: "spoilt", V: "spoilt"}
	}
}

// small tells all lists that may be whose keys are among three, each with one of two values.
func small() [][]api.Prop {
	out := [][]api.Prop{nil}
	for _, k := range []string{"a", "ab", "b"} {
		for _, l := range slices.Clone(out) {
			out = append(out, join(l, props(k, "")), join(l, props(k, "1")))
		}
	}
	return out
}

func show(l []api.Prop) string {
	var parts []string
	for _, p := range l {
		parts = append(parts, p.K+":"+p.V)
	}
	return "{" + strings.Join(parts, ",") + "}"
}
