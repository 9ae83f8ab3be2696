// Package prop is layer 1: see shared/doc/01-prop.md.
package prop

import (
	"slices"
	"strings"

	"redline/api"
)

// Check tells whether properties may be, Get looks one up, Patch changes some, Diff tells what would, Same whether they are the same.
func Check(l []api.Prop) api.Errno {
	if len(l) > api.MaxProps {
		return api.ErrLong
	}
	for i, p := range l {
		if !isKey(p.K) || !isValue(p.V) {
			return api.ErrKey
		}
		if i > 0 && p.K <= l[i-1].K {
			return api.ErrArg
		}
	}
	return api.OK
}

func Get(l []api.Prop, k string) (string, bool) {
	for _, p := range l {
		if p.K == k {
			return p.V, true
		}
	}
	return "", false
}

func Patch(l, old, new []api.Prop) ([]api.Prop, api.Errno) {
	if e := checkAll(l, old, new); e != api.OK {
		return nil, e
	}
	m := gather(l)
	for _, p := range old {
		if !has(m, p) {
			return nil, api.ErrSame
		}
		delete(m, p.K)
	}
	for _, p := range new {
		// What is left in m is no K of old, so that it may not stand there.
		if _, is := m[p.K]; is {
			return nil, api.ErrSame
		}
		m[p.K] = p.V
	}
	if len(m) > api.MaxProps {
		return nil, api.ErrLong
	}
	return sorted(m), api.OK
}

func Diff(a, b []api.Prop) (old, new []api.Prop, e api.Errno) {
	if e = checkAll(a, b); e != api.OK {
		return nil, nil, e
	}
	return without(a, b), without(b, a), api.OK
}

func Same(a, b []api.Prop) bool {
	return slices.Equal(a, b)
}

// isKey looks at the length first, so that a long text is not gone through.
func isKey(s string) bool {
	if len(s) < 1 || len(s) > api.MaxKey {
		return false
	}
	for i := range len(s) {
		if !isLetter(s[i]) {
			return false
		}
	}
	return true
}

func isValue(s string) bool {
	if len(s) > api.MaxVal {
		return false
	}
	for i := range len(s) {
		if c := s[i]; !isLetter(c) && !isDigit(c) && c != '-' {
			return false
		}
	}
	return true
}

func isLetter(c byte) bool { return 'a' <= c && c <= 'z' }

func isDigit(c byte) bool { return '0' <= c && c <= '9' }

func checkAll(lists ...[]api.Prop) api.Errno {
	for _, l := range lists {
		if e := Check(l); e != api.OK {
			return e
		}
	}
	return api.OK
}

func gather(l []api.Prop) map[string]string {
	m := make(map[string]string, len(l))
	for _, p := range l {
		m[p.K] = p.V
	}
	return m
}

func has(m map[string]string, p api.Prop) bool {
	v, is := m[p.K]
	return is && v == p.V
}

// without tells those of a that b has not, each with the same value.
func without(a, b []api.Prop) []api.Prop {
	m := gather(a)
	for _, p := range b {
		if has(m, p) {
			delete(m, p.K)
		}
	}
	return sorted(m)
}

// sorted brings what a map tells in whatever order into the one order of the keys.
func sorted(m map[string]string) []api.Prop {
	l := make([]api.Prop, 0, len(m))
	for k, v := range m {
		l = append(l, api.Prop{K: k, V: v})
	}
	slices.SortFunc(l, func(a, b api.Prop) int { return strings.Compare(a.K, b.K) })
	return l
}
