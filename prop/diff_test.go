package prop_test

import (
	"testing"

	"redline/api"
	"redline/prop"
)

// P1.3: those of a that are not among b, and those of b that are not among a.
func TestDiff(t *testing.T) {
	full := letters('a', 'p', "1")
	for _, x := range []struct{ a, b, old, new []api.Prop }{
		{nil, nil, nil, nil},
		{nil, []api.Prop{}, nil, nil},
		{props("a", "1", "b", "2"), props("b", "3", "c", "4"), props("a", "1", "b", "2"), props("b", "3", "c", "4")},
		{props("a", "1", "b", "2"), props("a", "1", "b", "2"), nil, nil},
		{props("a", "1"), nil, props("a", "1"), nil},
		{nil, props("a", "1"), nil, props("a", "1")},
		{props("a", ""), nil, props("a", ""), nil},
		{nil, props("a", ""), nil, props("a", "")},
		{props("a", "1"), props("a", "2"), props("a", "1"), props("a", "2")},
		{props("a", ""), props("a", "1"), props("a", ""), props("a", "1")},
		{props("a", "1"), props("b", "1"), props("a", "1"), props("b", "1")},
		{props("a", "1", "c", "3"), props("a", "1", "b", "2", "c", "3"), nil, props("b", "2")},
		{props("a", "1", "b", "2", "c", "3"), props("a", "1", "c", "3"), props("b", "2"), nil},
		{props("a", "1", "b", "2", "d", "4"), props("b", "3", "c", "4", "d", "4"), props("a", "1", "b", "2"), props("b", "3", "c", "4")},
		{full, full, nil, nil},
		{full, nil, full, nil},
		{nil, full, nil, full},
		{full, letters('a', 'p', "2"), full, letters('a', 'p', "2")},
		{full, letters('k', 'z', "1"), letters('a', 'j', "1"), letters('q', 'z', "1")},
	} {
		old, new, e := prop.Diff(x.a, x.b)
		if e != api.OK || !equal(old, x.old) || !equal(new, x.new) {
			t.Errorf("%s, %s: got %s, %s, %d", show(x.a), show(x.b), show(old), show(new), e)
		}
	}
}

// P1.3: a's error is told, then b's.
func TestDiffRefused(t *testing.T) {
	many := letters('a', 'q', "1")
	a, bad, turned := props("a", "1"), props("A", "1"), props("b", "", "a", "")
	for _, x := range []struct {
		a, b []api.Prop
		want api.Errno
	}{
		{many, a, api.ErrLong},
		{bad, a, api.ErrKey},
		{turned, a, api.ErrArg},
		{props("a", "1", "a", "1"), a, api.ErrArg},
		{a, many, api.ErrLong},
		{a, bad, api.ErrKey},
		{a, turned, api.ErrArg},
		{nil, props("a", "1 "), api.ErrKey},
		{many, bad, api.ErrLong},
		{many, turned, api.ErrLong},
		{bad, many, api.ErrKey},
		{bad, turned, api.ErrKey},
		{turned, many, api.ErrArg},
		{turned, bad, api.ErrArg},
		{many, many, api.ErrLong},
		{bad, bad, api.ErrKey},
	} {
		old, new, e := prop.Diff(x.a, x.b)
		if e != x.want || len(old)+len(new) != 0 {
			t.Errorf("%s, %s: got %s, %s, %d, want %d", show(x.a), show(x.b), show(old), show(new), e, x.want)
		}
	}
}

// P1.4: a patched with what differs is b, and back, of all small lists; and no more differs than does.
func TestDiffPatched(t *testing.T) {
	for _, a := range small() {
		for _, b := range small() {
			old, new, e := prop.Diff(a, b)
			if e != api.OK {
				t.Fatalf("%s, %s: %d", show(a), show(b), e)
			}
			if got, e := prop.Patch(a, old, new); e != api.OK || !equal(got, b) {
				t.Fatalf("%s, %s: there is %s, %d", show(a), show(b), show(got), e)
			}
			if got, e := prop.Patch(b, new, old); e != api.OK || !equal(got, a) {
				t.Fatalf("%s, %s: back is %s, %d", show(a), show(b), show(got), e)
			}
			for _, p := range join(old, new) {
				v, isA := prop.Get(a, p.K)
				w, isB := prop.Get(b, p.K)
				if isA && isB && v == w {
					t.Fatalf("%s, %s: %v is the same", show(a), show(b), p)
				}
			}
		}
	}
}

// P1.4: also of lists that are full.
func TestDiffPatchedFull(t *testing.T) {
	all := [][]api.Prop{nil, letters('a', 'p', "1"), letters('a', 'p', "2"), letters('k', 'z', "1"), letters('h', 's', "")}
	for _, a := range all {
		for _, b := range all {
			old, new, e := prop.Diff(a, b)
			there, f := prop.Patch(a, old, new)
			back, g := prop.Patch(b, new, old)
			if e != api.OK || f != api.OK || g != api.OK || !equal(there, b) || !equal(back, a) {
				t.Errorf("%s, %s: got %s, %s, %d, %d, %d", show(a), show(b), show(there), show(back), e, f, g)
			}
		}
	}
}

// R2: arguments are not changed, and what is told shares nothing with them, nor one list with the other one.
func TestDiffNew(t *testing.T) {
	for _, x := range []struct{ a, b []api.Prop }{
		{props("a", "1", "b", "2"), props("b", "3", "c", "4")},
		{props("a", "1", "b", "2"), nil},
		{nil, props("a", "1", "b", "2")},
		{props("a", "1"), props("a", "1")},
	} {
		wantOld, wantNew, _ := prop.Diff(x.a, x.b)
		a, room1 := roomy(x.a)
		b, room2 := roomy(x.b)
		old, new, _ := prop.Diff(a, b)
		if !equal(a, x.a) || !equal(b, x.b) {
			t.Errorf("an argument was changed: %s, %s", show(a), show(b))
		}
		wantEmpty(t, join(room1, room2))
		spoil(a)
		spoil(b)
		if !equal(old, wantOld) || !equal(new, wantNew) {
			t.Errorf("became %s, %s", show(old), show(new))
		}
		spoil(append(old, old...))
		spoil(old)
		if !equal(new, wantNew) {
			t.Errorf("one became %s with the other one", show(new))
		}
		spoil(new)
		if again, news, _ := prop.Diff(x.a, x.b); !equal(again, wantOld) || !equal(news, wantNew) {
			t.Errorf("told %s, %s the second time", show(again), show(news))
		}
	}
}

// R2: what a refused call was handed stays as it was, too.
func TestDiffRefusedArguments(t *testing.T) {
	a, room1 := roomy(props("b", "1", "a", "2"))
	b, room2 := roomy(props("d", "1", "c", "2"))
	prop.Diff(a, b)
	prop.Diff(props("a", "1"), b)
	if !equal(a, props("b", "1", "a", "2")) || !equal(b, props("d", "1", "c", "2")) {
		t.Errorf("an argument was changed: %s, %s", show(a), show(b))
	}
	wantEmpty(t, join(room1, room2))
}

// R6: what is told does not hang on the order in which a map is gone through.
func TestDiffOrder(t *testing.T) {
	for range 100 {
		old, new, e := prop.Diff(letters('a', 'p', "1"), letters('k', 'z', "2"))
		if e != api.OK || !equal(old, letters('a', 'p', "1")) || !equal(new, letters('k', 'z', "2")) {
			t.Fatalf("got %s, %s, %d", show(old), show(new), e)
		}
	}
}
