package hold_test

import (
	"fmt"
	"reflect"
	"slices"
	"strings"
	"testing"

	"redline/api"
	"redline/hold"
)

// handed is all that a call is handed but an Id, told all that it tells.
type handed struct {
	n api.Node
	l []api.Ref
	r api.Ref
	o api.Op
}

type told struct {
	r api.Ref
	l []api.Ref
	e api.Errno
}

// calls are the five, each by its name.
func calls() map[string]func(handed) told {
	return map[string]func(handed) told{
		"Check": func(x handed) told { return told{e: hold.Check(x.n, x.r)} },
		"Add": func(x handed) (out told) {
			out.l, out.e = hold.Add(x.n, x.l, 7, x.r)
			return out
		},
		"Get": func(x handed) (out told) {
			out.r, out.e = hold.Get(x.l, 3)
			return out
		},
		"Free": func(x handed) (out told) {
			out.l, out.e = hold.Free(x.l, 3)
			return out
		},
		"Step": func(x handed) told { return told{l: hold.Step(x.l, x.o)} },
	}
}

// cases are things to hand in: refs that may be, and such that may not, in lists with and without the Id that is asked for, and operations of all kinds.
func cases() []handed {
	p := path(1, 0, 2)
	stray := api.Ref{Id: 3, Kind: api.PathK, Live: true, Path: path(0), Point: pt(1, 1, 0), Range: rg(pt(0, 1), pt(2, 2))}
	one := refs(ofPath(p[:2]...), ofPoint(api.ForwardA, pt(1, p[:2]...)), ofRange(api.InwardA, pt(0, p[:2]...), pt(1, p[:2]...)), stray, dead(stray))
	for i := range one {
		one[i].Id = i
	}
	lists := [][]api.Ref{nil, {}, whole(), mixed(), one, slices.Repeat(mixed()[:4], 64)}
	o := api.Op{To: path(1, 0), Pos: 1, Node: tr(`{a:1}["b"[]]`), Old: []api.Prop{{K: "a"}}, New: []api.Prop{{K: "b"}}, Text: []rune{'t'}}
	o.From.Anchor.Path, o.Into.Focus.Path = path(1), path(2)
	var out []handed
	for _, l := range lists {
		for _, r := range slices.Concat(whole(), broken(), one) {
			out = append(out, handed{tr(doc), l, r, api.Op{}})
		}
		for _, kind := range append(nine(), 0, 10) {
			for _, q := range [][]int{nil, path(0), path(1), path(1, 0), path(2), path(-1), p} {
				o.Kind, o.Path = kind, q
				out = append(out, handed{tr(doc), l, whole()[len(q)%3], o})
			}
		}
	}
	return out
}

// inLists goes through all lists in a value, each ahead of those in it.
func inLists(v reflect.Value, visit func(reflect.Value)) {
	switch v.Kind() {
	case reflect.Struct:
		for i := range v.NumField() {
			inLists(v.Field(i), visit)
		}
	case reflect.Slice:
		visit(v)
		for i := range v.Len() {
			inLists(v.Index(i), visit)
		}
	}
}

// inAll goes through all lists of values, which are handed as pointers.
func inAll(visit func(reflect.Value), all ...any) {
	for _, x := range all {
		inLists(reflect.ValueOf(x).Elem(), visit)
	}
}

func inHanded(x *handed, visit func(reflect.Value)) { inAll(visit, &x.n, &x.l, &x.r, &x.o) }

func inTold(x *told, visit func(reflect.Value)) { inAll(visit, &x.r, &x.l) }

// spoil writes over all numbers and texts of a value, but not into its lists.
func spoil(v reflect.Value) {
	switch v.Kind() {
	case reflect.Bool:
		v.SetBool(!v.Bool())
	case reflect.Int, reflect.Int32:
		v.SetInt(v.Int() + 77)
	case reflect.String:
		v.SetString(v.String() + "spoilt")
	case reflect.Struct:
		for i := range v.NumField() {
			spoil(v.Field(i))
		}
	}
}

// spoilList writes all over a list, also behind its end, as far as it has room.
func spoilList(v reflect.Value) {
	for i := range v.Cap() {
		spoil(v.Slice(0, v.Cap()).Index(i))
	}
}

// roomy gives what is handed lists of its own, each with room behind it, and something in that room.
func roomy(x handed) handed {
	inHanded(&x, func(v reflect.Value) {
		many := v.Len() + 3
		room := reflect.MakeSlice(v.Type(), many, many)
		reflect.Copy(room, v)
		for i := v.Len(); i < many; i++ {
			spoil(room.Index(i))
		}
		v.Set(room.Slice(0, v.Len()))
	})
	return x
}

// wholly writes lists down, also what stands in the room behind them, to see whether anybody writes there.
func wholly(in func(func(reflect.Value))) string {
	var out strings.Builder
	in(func(v reflect.Value) {
		fmt.Fprintf(&out, "%d, %v, %+v; ", v.Len(), v.IsNil(), v.Slice(0, v.Cap()).Interface())
	})
	return out.String()
}

func allHanded(x handed) string {
	return wholly(func(visit func(reflect.Value)) { inHanded(&x, visit) })
}

func allTold(x told) string { return fmt.Sprint(x) }

func name(call string, x handed) string {
	return call + " of " + few(x.l) + ", " + few(x.r) + ", " + few(x.o)
}

// P14.1 to P14.4, R2: what is handed in stays as it is, also in the room behind its lists, with an error, too; it stays when what was told is written into.
func TestKept(t *testing.T) {
	for _, x := range cases() {
		for call, do := range calls() {
			in := roomy(x)
			was := allHanded(in)
			got := do(in)
			if allHanded(in) != was {
				t.Fatalf("%s: what was handed in is changed", name(call, x))
			}
			inTold(&got, spoilList)
			if allHanded(in) != was {
				t.Fatalf("%s: it hangs on what was told", name(call, x))
			}
		}
	}
}

// P14.1 to P14.4, R2: what was told stays when what was handed in is written into, and when it is told again.
func TestStays(t *testing.T) {
	for _, x := range cases() {
		for call, do := range calls() {
			in := roomy(x)
			got, again := do(in), do(in)
			was := allTold(got)
			if allTold(again) != was {
				t.Fatalf("%s: another answer", name(call, x))
			}
			inTold(&again, spoilList)
			inHanded(&in, spoilList)
			if allTold(got) != was {
				t.Fatalf("%s: what was told hangs on what was handed in", name(call, x))
			}
		}
	}
}

// P14.1 to P14.4, R2: no two lists that are told share anything, nor with what was handed in, also where several refs have one path there.
func TestShares(t *testing.T) {
	for _, x := range cases() {
		for call, do := range calls() {
			in := x
			seen := map[any]bool{}
			spots := func(look func(any)) func(reflect.Value) {
				return func(v reflect.Value) {
					for i := range v.Cap() {
						look(v.Slice(0, v.Cap()).Index(i).Addr().Interface())
					}
				}
			}
			inHanded(&in, spots(func(at any) { seen[at] = true }))
			got := do(in)
			inTold(&got, spots(func(at any) {
				if seen[at] {
					t.Fatalf("%s: what is told shares something", name(call, x))
				}
				seen[at] = true
			}))
		}
	}
}

// R2: whoever makes a path, or the list, longer, as slices grow, changes no other one.
func TestGrows(t *testing.T) {
	for call, do := range calls() {
		x := handed{tr(doc), append(whole(), dead(ofPath(1)), ofPath(1)), ofRange(api.InwardA, pt(1, 0), pt(1, 1, 0)), insert(0)}
		x.l[2].Id = 3
		got := do(x)
		was := allTold(got)
		for _, r := range slices.Concat(got.l, refs(got.r)) {
			for _, p := range [][]int{r.Path, r.Point.Path, r.Range.Anchor.Path, r.Range.Focus.Path} {
				_ = append(p, -99, -98)
			}
		}
		again := do(x)
		if allTold(got) != was || allTold(again) != was {
			t.Fatalf("%s: one grows into another one", call)
		}
	}
}

// P14.2, P14.3, R2: lists that come of one list are each their own.
func TestBranches(t *testing.T) {
	n, l := tr(doc), make([]api.Ref, 0, 8)
	l = append(l, whole()...)
	a, _ := hold.Add(n, l, 1, ofPath(1))
	b, _ := hold.Add(n, l, 2, ofPath(2))
	c, _ := hold.Add(n, a, 3, ofPath(0))
	d, _ := hold.Free(a, 1)
	e := hold.Step(a, insert(0))
	f := ofPath(1)
	f.Id = 1
	wantList(t, "a", a, append(whole(), f))
	wantList(t, "l", l, whole())
	wantList(t, "d", d, whole())
	if len(b) != 4 || b[3].Id != 2 || len(c) != 5 || c[4].Id != 3 || len(e) != 4 || !slices.Equal(e[3].Path, path(2)) {
		t.Fatalf("got %v, %v, %v", b, c, e)
	}
}
