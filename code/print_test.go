package code_test

import (
	"strings"
	"testing"

	"redline/api"
	"redline/code"
)

type printed struct {
	n    api.Node
	want string
}

func wantPrinted(t *testing.T, all []printed) {
	t.Helper()
	for _, x := range all {
		if got, e := code.Print(x.n); got != x.want || e != api.OK {
			t.Errorf("%.200s: got %.200s, %d, want %.200s", show(x.n), got, e, x.want)
		}
	}
}

// P6.1: nodes with no property, with one, and with several; leaves and elements; nodes within nodes.
func TestPrint(t *testing.T) {
	wantPrinted(t, []printed{
		{api.Node{}, `[]`},
		{api.Node{Props: []api.Prop{}, Text: []rune{}, Kids: []api.Node{}}, `[]`},
		{leaf(""), `""`},
		{api.Node{Leaf: true, Props: []api.Prop{}, Text: []rune{}, Kids: []api.Node{}}, `""`},
		{leaf("abc"), `"abc"`},
		{leaf("a", "bold", "1"), `{bold:1}"a"`},
		{leaf("", "bold", ""), `{bold:}""`},
		{leaf("a", "bold", "1", "em", "", "size", "12"), `{bold:1,em:,size:12}"a"`},
		{elem(props("type", "p")), `{type:p}[]`},
		{elem(props("a", "-", "b", "0-z", "type", "p-1")), `{a:-,b:0-z,type:p-1}[]`},
		{elem(props("type", "p"), leaf("a", "bold", "1")), `{type:p}[{bold:1}"a"]`},
		{elem(nil, leaf("a"), leaf("b")), `["a""b"]`},
		{elem(nil, elem(nil), elem(nil)), `[[][]]`},
		{elem(nil, elem(nil, elem(nil)), leaf("")), `[[[]]""]`},
		{elem(nil, leaf(""), elem(nil, leaf("a"))), `[""["a"]]`},
		{elem(props("a", ""), leaf("b", "c", "d"), elem(props("e", "f")), leaf("g")), `{a:}[{c:d}"b"{e:f}[]"g"]`},
		{leaf("", key(api.MaxKey), val(api.MaxVal)), "{" + key(16) + ":" + val(32) + `}""`},
		{elem(letters(16, "1")), `{a:1,b:1,c:1,d:1,e:1,f:1,g:1,h:1,i:1,j:1,k:1,l:1,m:1,n:1,o:1,p:1}[]`},
		{sample(), sampleText},
	})
}

// P6.1: runes that are written as they are, and runes that are escaped, within a greater text, too.
func TestPrintTexts(t *testing.T) {
	for _, x := range []struct{ text, want string }{
		{plain, plain},
		{`"`, `\22;`},
		{`\`, `\5c;`},
		{`\22;`, `\5c;22;`},
		{"a\nb", `a\a;b`},
		{"\x00\x1f\x7f\u0080", `\0;\1f;\7f;\80;`},
		{"\ud7ff\ue000\uffff", `\d7ff;\e000;\ffff;`},
		{"日本 \U0001f600\U0010ffff", `\65e5;\672c; \1f600;\10ffff;`},
		{`[]{}:,`, `[]{}:,`},
	} {
		wantPrinted(t, []printed{
			{leaf(x.text), `"` + x.want + `"`},
			{elem(props("a", "b"), leaf("x"), leaf(x.text, "c", ""), leaf("y")), `{a:b}["x"{c:}"` + x.want + `""y"]`},
		})
	}
}

// P6.1: the texts of all small trees, and no two of them are the same.
func TestPrintAll(t *testing.T) {
	seen := map[string]string{}
	for _, n := range smallTrees() {
		got, e := code.Print(n)
		if got != textOf(n) || e != api.OK {
			t.Fatalf("%s: got %s, %d, want %s", show(n), got, e, textOf(n))
		}
		if other, is := seen[got]; is {
			t.Fatalf("%s and %s: both are %s", show(n), other, got)
		}
		seen[got] = show(n)
	}
}

// P6.1: of a tree that may not be node.Check's error is told, and no text.
func TestPrintRefused(t *testing.T) {
	bad := []rune{'a', 0xd800}
	for i, x := range []struct {
		n    api.Node
		want api.Errno
	}{
		{elem(letters(17, "")), api.ErrLong},
		{leaf("a", "", ""), api.ErrKey},
		{leaf("a", "A", ""), api.ErrKey},
		{leaf("a", "a", "A"), api.ErrKey},
		{leaf("a", "a", "\x80"), api.ErrKey},
		{elem(props("é", "")), api.ErrKey},
		{elem(props("a", "}")), api.ErrKey},
		{leaf("a", key(17), ""), api.ErrKey},
		{leaf("a", "a", val(33)), api.ErrKey},
		{elem(props("b", "", "a", "")), api.ErrArg},
		{leaf("", "a", "1", "a", "1"), api.ErrArg},
		{api.Node{Leaf: true, Kids: []api.Node{{}}}, api.ErrLeaf},
		{api.Node{Text: []rune("a")}, api.ErrLeaf},
		{api.Node{Leaf: true, Text: bad}, api.ErrRune},
		{api.Node{Leaf: true, Text: []rune{-1}}, api.ErrRune},
		{api.Node{Leaf: true, Text: []rune{0x110000}}, api.ErrRune},
		// of several the first one
		{api.Node{Leaf: true, Props: props("b", "", "a", ""), Text: bad, Kids: []api.Node{{}}}, api.ErrArg},
		{api.Node{Leaf: true, Text: bad, Kids: []api.Node{leaf("", "", "")}}, api.ErrLeaf},
		{elem(nil, api.Node{Leaf: true, Text: bad}, leaf("", "", "")), api.ErrRune},
		{elem(props("", ""), api.Node{Leaf: true, Text: bad}), api.ErrKey},
	} {
		for _, n := range []api.Node{x.n, elem(nil, x.n), elem(props("a", ""), leaf("b"), elem(nil, elem(nil), x.n), leaf("c"))} {
			if got, e := code.Print(n); got != "" || e != x.want {
				t.Errorf("%d: %.200s: got %.200s, %d, want %d", i, show(n), got, e, x.want)
			}
		}
	}
}

// P6.1: a tree as great as may be is written, one that is greater is not, whatever else is wrong with it.
func TestPrintGreat(t *testing.T) {
	wantPrinted(t, []printed{
		{wide(api.MaxCap - 1), "[" + strings.Repeat(`""`, api.MaxCap-1) + "]"},
		{api.Node{Leaf: true, Text: make([]rune, api.MaxCap-1)}, `"` + strings.Repeat(`\0;`, api.MaxCap-1) + `"`},
		{chain(1<<16-1, leaf("a")), strings.Repeat("[", 1<<16-1) + `"a"` + strings.Repeat("]", 1<<16-1)},
	})
	wrong := wide(api.MaxCap)
	wrong.Props = props("", "")
	for i, n := range []api.Node{wide(api.MaxCap), wrong, elem(props("", ""), wide(api.MaxCap-1)), {Leaf: true, Text: make([]rune, api.MaxCap)}} {
		if got, e := code.Print(n); got != "" || e != api.ErrLong {
			t.Errorf("%d: got %.20s, %d", i, got, e)
		}
	}
}

// R2: the tree is not changed, nor what stands behind the ends of its lists.
func TestPrintChangesNothing(t *testing.T) {
	for _, x := range []api.Node{{}, leaf("a\n", "b", "1"), sample(), elem(nil, sample(), leaf("a", "", "")), {Leaf: true, Text: []rune{-1}, Kids: []api.Node{{}}}} {
		n := roomy(x)
		before := show(whole(n))
		got, e := code.Print(n)
		if show(whole(n)) != before {
			t.Errorf("%s: changed", show(x))
		}
		again, f := code.Print(n)
		spoil(n)
		if want, g := code.Print(x); got != want || again != want || e != g || f != g {
			t.Errorf("%s: got %s, %d, and %s, %d, want %s, %d", show(x), got, e, again, f, want, g)
		}
	}
}
