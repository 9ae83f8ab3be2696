package prop_test

import (
	"strings"
	"testing"

	"redline/api"
	"redline/prop"
)

// P1.1: how many there may be, how long keys and values may be, how keys stand, and which error is told first.
func TestCheck(t *testing.T) {
	key16, key17 := strings.Repeat("k", 16), strings.Repeat("k", 17)
	val32, val33 := strings.Repeat("9", 32), strings.Repeat("9", 33)
	for _, x := range []struct {
		name string
		l    []api.Prop
		want api.Errno
	}{
		{"nil", nil, api.OK},
		{"empty", []api.Prop{}, api.OK},
		{"ordinary", props("bold", "1", "size", "12", "type", "list-item"), api.OK},
		{"15", letters('a', 'o', "1"), api.OK},
		{"16", letters('a', 'p', "1"), api.OK},
		{"17", letters('a', 'q', "1"), api.ErrLong},
		{"26", letters('a', 'z', "1"), api.ErrLong},
		{"key of 0", props("", "1"), api.ErrKey},
		{"key of 1", props("k", "1"), api.OK},
		{"key of 16", props(key16, "1"), api.OK},
		{"key of 17", props(key17, "1"), api.ErrKey},
		{"value of 0", props("k", ""), api.OK},
		{"value of 1", props("k", "-"), api.OK},
		{"value of 32", props("k", val32), api.OK},
		{"value of 33", props("k", val33), api.ErrKey},
		{"both full", props(key16, val32), api.OK},
		{"both too long", props(key17, val33), api.ErrKey},
		{"8 runes of 16 bytes", props(strings.Repeat("é", 8), "1"), api.ErrKey},
		{"16 runes of 32 bytes", props("k", strings.Repeat("é", 16)), api.ErrKey},
		{"huge", props(strings.Repeat("k", 1<<20), strings.Repeat("v", 1<<20)), api.ErrKey},
		{"equal keys", props("a", "1", "a", "2"), api.ErrArg},
		{"equal properties", props("a", "1", "a", "1"), api.ErrArg},
		{"falling keys", props("b", "1", "a", "2"), api.ErrArg},
		{"a longer one first", props("ab", "", "a", ""), api.ErrArg},
		{"a shorter one first", props("a", "", "ab", "", "b", ""), api.OK},
		{"short ones may stand behind", props("aaaa", "", "b", ""), api.OK},
		{"long ones may fall", props("b", "", "aaaa", ""), api.ErrArg},
		{"falling at the end", props("a", "", "c", "", "b", ""), api.ErrArg},
		{"above the first, not the second", props("a", "", "d", "", "c", ""), api.ErrArg},
		{"equal to one further ahead", props("a", "", "b", "", "a", ""), api.ErrArg},
		{"values may fall", props("a", "9", "b", "1"), api.OK},
		{"bad key in the middle", props("a", "", "B", "", "c", ""), api.ErrKey},
		{"bad value at the end", props("a", "", "b", "", "c", "C"), api.ErrKey},
		{"too many ahead of a bad key", join(props("A", ""), letters('a', 'p', "")), api.ErrLong},
		{"too many ahead of falling keys", join(letters('b', 'q', ""), props("a", "")), api.ErrLong},
		{"17 bad ones", make([]api.Prop, 17), api.ErrLong},
		{"16 bad ones", make([]api.Prop, 16), api.ErrKey},
		{"bad key ahead of falling", props("b", "", "A", ""), api.ErrKey},
		{"bad value ahead of falling", props("b", "", "a", "A"), api.ErrKey},
		{"empty key ahead of falling", props("b", "", "", ""), api.ErrKey},
		{"falling, then a bad key", props("b", "", "a", "", "C", ""), api.ErrArg},
		{"equal, then a bad value", props("a", "", "a", "", "b", "B"), api.ErrArg},
		{"a bad key, then falling", props("A", "", "c", "", "b", ""), api.ErrKey},
		{"a bad value, then falling", props("a", "A", "c", "", "b", ""), api.ErrKey},
	} {
		if got := prop.Check(x.l); got != x.want {
			t.Errorf("%s: got %d, want %d", x.name, got, x.want)
		}
	}
}

// P1.1: which bytes a key, and a value, may have, wherever they stand.
func TestCheckBytes(t *testing.T) {
	letter := "abcdefghijklmnopqrstuvwxyz"
	value := letter + "0123456789-"
	for i := range 256 {
		c := string([]byte{byte(i)})
		for _, s := range []string{c, c + "mm", "m" + c + "m", "mm" + c} {
			wantErr(t, props(s, "1"), strings.Contains(letter, c))
			wantErr(t, props("k", s), strings.Contains(value, c))
		}
	}
}

func wantErr(t *testing.T, l []api.Prop, fine bool) {
	t.Helper()
	want := api.ErrKey
	if fine {
		want = api.OK
	}
	if got := prop.Check(l); got != want {
		t.Errorf("%q: got %d, want %d", l, got, want)
	}
}

// P1.1: Get tells the first one of that key, also of lists that may not be.
func TestGet(t *testing.T) {
	for _, x := range []struct {
		l    []api.Prop
		k    string
		want string
		is   bool
	}{
		{nil, "a", "", false},
		{nil, "", "", false},
		{[]api.Prop{}, "a", "", false},
		{props("a", "1", "b", "2", "c", "3"), "a", "1", true},
		{props("a", "1", "b", "2", "c", "3"), "b", "2", true},
		{props("a", "1", "b", "2", "c", "3"), "c", "3", true},
		{props("a", "1", "b", "2", "c", "3"), "d", "", false},
		{props("a", "1", "b", "2", "c", "3"), "", "", false},
		{props("a", "1", "b", "2", "c", "3"), "1", "", false},
		{props("a", "1"), "A", "", false},
		{props("a", ""), "a", "", true},
		{props("ab", "1"), "a", "", false},
		{props("a", "1"), "ab", "", false},
		{props("a", "1", "a", "2"), "a", "1", true},
		{props("c", "3", "b", "2", "a", "1"), "a", "1", true},
		{props("c", "3", "b", "2", "c", "1"), "c", "3", true},
		{props("", "1"), "", "1", true},
		{props("A", "x y"), "A", "x y", true},
		{letters('a', 'z', "v"), "z", "v", true},
	} {
		if got, is := prop.Get(x.l, x.k); got != x.want || is != x.is {
			t.Errorf("%s, %q: got %q, %v", show(x.l), x.k, got, is)
		}
	}
}

// P1.1: Same holds them against each other one by one, also those that may not be.
func TestSame(t *testing.T) {
	for _, x := range []struct {
		a, b []api.Prop
		want bool
	}{
		{nil, nil, true},
		{nil, []api.Prop{}, true},
		{nil, props("a", "1"), false},
		{nil, props("", ""), false},
		{props("a", "1"), props("a", "1"), true},
		{props("a", "1"), props("a", "2"), false},
		{props("a", "1"), props("b", "1"), false},
		{props("a", ""), props("a", "1"), false},
		{props("a", "1"), props("a", "1", "b", "2"), false},
		{props("b", "2"), props("a", "1", "b", "2"), false},
		{props("a", "1", "b", "2"), props("a", "1", "b", "3"), false},
		{props("a", "1", "b", "2"), props("a", "1", "c", "2"), false},
		{props("a", "1", "b", "2"), props("a", "2", "b", "1"), false},
		{props("a", "1", "b", "2"), props("b", "2", "a", "1"), false},
		{props("a", "1", "a", "1"), props("a", "1"), false},
		{props("A", "x y"), props("A", "x y"), true},
		{props("A", "x y"), props("a", "x y"), false},
		{props("a", "bc"), props("ab", "c"), false},
		{letters('a', 'z', "1"), letters('a', 'z', "1"), true},
		{letters('a', 'z', "1"), letters('a', 'y', "1"), false},
	} {
		if prop.Same(x.a, x.b) != x.want || prop.Same(x.b, x.a) != x.want {
			t.Errorf("%s, %s: not %v", show(x.a), show(x.b), x.want)
		}
	}
}

// R2: what is only looked at stays as it was.
func TestLookedAtOnly(t *testing.T) {
	l, room := roomy(props("b", "2", "a", "1"))
	prop.Check(l)
	prop.Get(l, "a")
	prop.Same(l, props("a", "1", "b", "2"))
	prop.Same(props("a", "1", "b", "2"), l)
	if !equal(l, props("b", "2", "a", "1")) {
		t.Errorf("an argument was changed: %s", show(l))
	}
	wantEmpty(t, room)
}
