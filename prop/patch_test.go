package prop_test

import (
	"strings"
	"testing"

	"redline/api"
	"redline/prop"
)

// P1.2: l without those of old, and with those of new.
func TestPatch(t *testing.T) {
	full := letters('a', 'p', "1")
	for _, x := range []struct {
		name                string
		l, old, new, result []api.Prop
	}{
		{"nothing", nil, nil, nil, nil},
		{"empty lists", []api.Prop{}, []api.Prop{}, []api.Prop{}, nil},
		{"nothing changed", props("a", "1", "b", "2"), nil, nil, props("a", "1", "b", "2")},
		{"put into nothing", nil, nil, props("a", "1", "b", ""), props("a", "1", "b", "")},
		{"put in ahead", props("b", "2"), nil, props("a", "1"), props("a", "1", "b", "2")},
		{"put in behind", props("b", "2"), nil, props("c", "3"), props("b", "2", "c", "3")},
		{"put in between", props("a", "1", "c", "3"), nil, props("b", "2"), props("a", "1", "b", "2", "c", "3")},
		{"by texts, not lengths", props("b", ""), nil, props("aaa", "", "ba", ""), props("aaa", "", "b", "", "ba", "")},
		{"taken out ahead", props("a", "1", "b", "2", "c", "3"), props("a", "1"), nil, props("b", "2", "c", "3")},
		{"taken out between", props("a", "1", "b", "2", "c", "3"), props("b", "2"), nil, props("a", "1", "c", "3")},
		{"taken out behind", props("a", "1", "b", "2", "c", "3"), props("c", "3"), nil, props("a", "1", "b", "2")},
		{"an empty value taken out", props("a", ""), props("a", ""), nil, nil},
		{"all taken out", full, full, nil, nil},
		{"another value", props("a", "1", "b", "2"), props("a", "1"), props("a", "3"), props("a", "3", "b", "2")},
		{"an empty value", props("a", "1"), props("a", "1"), props("a", ""), props("a", "")},
		{"the same value", props("a", "1"), props("a", "1"), props("a", "1"), props("a", "1")},
		{"another key", props("b", "2", "c", "3"), props("b", "2"), props("d", "4"), props("c", "3", "d", "4")},
		{"all at once", props("a", "1", "b", "2", "d", "4"), props("a", "1", "b", "2"), props("b", "3", "c", "4"), props("b", "3", "c", "4", "d", "4")},
		{"up to 16", letters('b', 'p', "1"), nil, props("a", "1"), full},
		{"16 from nothing", nil, nil, full, full},
		{"16 stay 16", full, props("a", "1"), props("q", "1"), letters('b', 'q', "1")},
		{"16 for 16", full, full, letters('k', 'z', "2"), letters('k', 'z', "2")},
		{"8 and 8", letters('a', 'h', "1"), nil, letters('i', 'p', "1"), full},
	} {
		got, e := prop.Patch(x.l, x.old, x.new)
		if e != api.OK || !equal(got, x.result) {
			t.Errorf("%s: got %s, %d", x.name, show(got), e)
		}
	}
}

// P1.2: what is refused, and as what, the first one of several.
func TestPatchRefused(t *testing.T) {
	full, many := letters('a', 'p', "1"), letters('a', 'q', "1")
	a, bad, turned := props("a", "1"), props("A", "1"), props("b", "", "a", "")
	for _, x := range []struct {
		name        string
		l, old, new []api.Prop
		want        api.Errno
	}{
		{"l too long", many, nil, nil, api.ErrLong},
		{"l bad", bad, nil, nil, api.ErrKey},
		{"l turned", turned, nil, nil, api.ErrArg},
		{"old too long", a, many, nil, api.ErrLong},
		{"old bad", a, bad, nil, api.ErrKey},
		{"old turned", a, turned, nil, api.ErrArg},
		{"old twice", a, props("a", "1", "a", "1"), nil, api.ErrArg},
		{"new too long", a, nil, many, api.ErrLong},
		{"new bad", a, nil, bad, api.ErrKey},
		{"new's value bad", a, nil, props("b", strings.Repeat("1", 33)), api.ErrKey},
		{"new turned", a, nil, turned, api.ErrArg},
		{"new twice", a, nil, props("b", "1", "b", "1"), api.ErrArg},
		{"l ahead of old", turned, bad, nil, api.ErrArg},
		{"l ahead of new", bad, nil, many, api.ErrKey},
		{"old ahead of new", a, turned, many, api.ErrArg},
		{"l ahead of old and new", many, bad, turned, api.ErrLong},
		{"l bad ahead of what is not there", bad, props("b", "1"), nil, api.ErrKey},
		{"old bad ahead of what is not there", a, props("B", "1", "c", "1"), nil, api.ErrKey},
		{"new bad ahead of what is not there", a, props("b", "1"), bad, api.ErrKey},
		{"new turned ahead of what is there", a, nil, turned, api.ErrArg},
		{"new too long ahead of what is there", a, nil, many, api.ErrLong},
		{"old of another value", a, props("a", "2"), nil, api.ErrSame},
		{"old of an empty value", a, props("a", ""), nil, api.ErrSame},
		{"old's value is empty in l", props("a", ""), props("a", "1"), nil, api.ErrSame},
		{"old of another key", a, props("b", "1"), nil, api.ErrSame},
		{"old of another key, and an empty value", a, props("b", ""), nil, api.ErrSame},
		{"old of nothing", nil, a, nil, api.ErrSame},
		{"the last one of old", props("a", "1", "b", "2"), props("a", "1", "b", "3"), nil, api.ErrSame},
		{"old is new's", a, props("b", "1"), props("b", "1"), api.ErrSame},
		{"new there with its value", a, nil, a, api.ErrSame},
		{"new there with another value", a, nil, props("a", "2"), api.ErrSame},
		{"new there with an empty value", props("a", ""), nil, props("a", "1"), api.ErrSame},
		{"the last one of new", props("a", "1", "c", "3"), nil, props("b", "2", "c", "4"), api.ErrSame},
		{"new is another one than old", props("a", "1", "b", "2"), a, props("b", "3"), api.ErrSame},
		{"one too many", full, nil, props("q", "1"), api.ErrLong},
		{"two in, one out", full, props("a", "1"), props("q", "1", "r", "1"), api.ErrLong},
		{"16 and 16", full, nil, letters('q', 'z', "1"), api.ErrLong},
		{"9 and 8", letters('a', 'i', "1"), nil, letters('j', 'q', "1"), api.ErrLong},
		{"what is not there ahead of too many", full, props("a", "2"), letters('q', 'z', ""), api.ErrSame},
		{"what is there ahead of too many", full, nil, props("p", "2", "q", "1"), api.ErrSame},
		{"what is there, behind what would be too many", letters('b', 'q', "1"), nil, props("a", "1", "q", "2"), api.ErrSame},
	} {
		got, e := prop.Patch(x.l, x.old, x.new)
		if e != x.want || len(got) != 0 {
			t.Errorf("%s: got %s, %d, want %d", x.name, show(got), e, x.want)
		}
	}
}

// patched is what the chapter's words say of three lists that may be, as plainly as can be.
func patched(l, old, new []api.Prop) ([]api.Prop, api.Errno) {
	for _, p := range old {
		if v, is := prop.Get(l, p.K); !is || v != p.V {
			return nil, api.ErrSame
		}
	}
	for _, p := range new {
		_, there := prop.Get(l, p.K)
		if _, out := prop.Get(old, p.K); there && !out {
			return nil, api.ErrSame
		}
	}
	var out []api.Prop
	for _, k := range []string{"a", "ab", "b"} {
		v, is := prop.Get(new, k)
		if _, gone := prop.Get(old, k); !is && !gone {
			v, is = prop.Get(l, k)
		}
		if is {
			out = append(out, api.Prop{K: k, V: v})
		}
	}
	return out, api.OK
}

// P1.2: of all small lists.
func TestPatchSmall(t *testing.T) {
	all := small()
	for _, l := range all {
		for _, old := range all {
			for _, new := range all {
				want, e := patched(l, old, new)
				if got, f := prop.Patch(l, old, new); f != e || !equal(got, want) {
					t.Fatalf("%s, %s, %s: got %s, %d, want %s, %d", show(l), show(old), show(new), show(got), f, show(want), e)
				}
			}
		}
	}
}

// R2: arguments are not changed, nor what lies behind their ends, whatever is told.
func TestPatchArguments(t *testing.T) {
	for _, x := range []struct{ l, old, new []api.Prop }{
		{props("a", "1", "c", "3"), props("a", "1"), props("b", "2", "d", "4")},
		{props("a", "1", "c", "3"), nil, nil},
		{nil, nil, props("a", "1")},
		{props("a", "1", "c", "3"), props("a", "1"), props("c", "4")},
		{props("b", "1", "a", "3"), props("d", "1", "c", "1"), props("f", "1", "e", "4")},
		{letters('a', 'p', "1"), nil, letters('q', 'z', "1")},
	} {
		l, room1 := roomy(x.l)
		old, room2 := roomy(x.old)
		new, room3 := roomy(x.new)
		prop.Patch(l, old, new)
		if !equal(l, x.l) || !equal(old, x.old) || !equal(new, x.new) {
			t.Errorf("an argument was changed: %s, %s, %s", show(l), show(old), show(new))
		}
		wantEmpty(t, join(room1, room2, room3))
	}
}

// R2: what is told shares nothing with the arguments, nor with what is told another time.
func TestPatchNew(t *testing.T) {
	for _, x := range []struct{ l, old, new []api.Prop }{
		{props("a", "1", "c", "3"), props("a", "1"), props("b", "2")},
		{props("a", "1", "c", "3"), nil, nil},
		{nil, nil, props("a", "1", "b", "2")},
		{props("a", "1"), props("a", "1"), props("a", "1")},
	} {
		want, _ := prop.Patch(x.l, x.old, x.new)
		l, _ := roomy(x.l)
		old, _ := roomy(x.old)
		new, _ := roomy(x.new)
		one, _ := prop.Patch(l, old, new)
		two, _ := prop.Patch(l, old, new)
		spoil(one)
		if !equal(l, x.l) || !equal(old, x.old) || !equal(new, x.new) || !equal(two, want) {
			t.Errorf("%s is shared", show(want))
		}
		spoil(l)
		spoil(old)
		spoil(new)
		if !equal(two, want) {
			t.Errorf("%s became %s", show(want), show(two))
		}
	}
}

// R6: what is told does not hang on the order in which a map is gone through.
func TestPatchOrder(t *testing.T) {
	for range 100 {
		got, e := prop.Patch(letters('a', 'h', "1"), nil, letters('i', 'p', "1"))
		if e != api.OK || !equal(got, letters('a', 'p', "1")) {
			t.Fatalf("got %s, %d", show(got), e)
		}
	}
}
