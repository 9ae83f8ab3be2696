package code_test

import (
	"slices"
	"strconv"
	"strings"
	"testing"

	"redline/api"
	"redline/code"
	"redline/glyph"
)

// props makes properties of keys and values, one after the other.
func props(l ...string) []api.Prop {
	var out []api.Prop
	for i := 0; i+1 < len(l); i += 2 {
		out = append(out, api.Prop{K: l[i], V: l[i+1]})
	}
	return out
}

// letters makes so many properties of one value whose keys are the letters from a on.
func letters(many int, v string) []api.Prop {
	var out []api.Prop
	for i := range many {
		out = append(out, api.Prop{K: string(rune('a' + i)), V: v})
	}
	return out
}

func leaf(s string, l ...string) api.Node {
	return api.Node{Leaf: true, Props: props(l...), Text: []rune(s)}
}

func elem(l []api.Prop, kids ...api.Node) api.Node {
	return api.Node{Props: l, Kids: kids}
}

// keys and values of those lengths.
func key(many int) string { return strings.Repeat("k", many) }

func val(many int) string { return strings.Repeat("9", many) }

// plain are the bytes of the plain runes, as the chapter of glyph names them.
const plain = ` !#$%&'()*+,-./0123456789:;<=>?@ABCDEFGHIJKLMNOPQRSTUVWXYZ[]^_` + "`abcdefghijklmnopqrstuvwxyz{|}~"

// show writes a tree down whole, also one that may not be: two trees are the same just if they are written alike.
func show(n api.Node) string {
	var b strings.Builder
	var whole func(n api.Node)
	whole = func(n api.Node) {
		b.WriteString(strconv.FormatBool(n.Leaf) + "{")
		for _, p := range n.Props {
			b.WriteString(strconv.Quote(p.K) + ":" + strconv.Quote(p.V) + " ")
		}
		b.WriteString("}(")
		for _, c := range n.Text {
			b.WriteString(strconv.Itoa(int(c)) + " ")
		}
		b.WriteString(")[")
		for _, k := range n.Kids {
			whole(k)
		}
		b.WriteString("]")
	}
	whole(n)
	return b.String()
}

// textOf is a tree's text by the chapter's words, put together from its pieces. Of a leaf's Kids, and an element's Text, it tells, too, though they may not be there, so that such a tree's text is no other one's.
func textOf(n api.Node) string {
	var pieces []string
	for _, p := range n.Props {
		pieces = append(pieces, p.K+":"+p.V)
	}
	out := ""
	if len(pieces) > 0 {
		out = "{" + strings.Join(pieces, ",") + "}"
	}
	quoted := `"`
	for _, c := range n.Text {
		if c < 128 && strings.ContainsRune(plain, c) {
			quoted += string(c)
		} else {
			quoted += `\` + strconv.FormatInt(int64(c), 16) + ";"
		}
	}
	within := "["
	for _, k := range n.Kids {
		within += textOf(k)
	}
	if n.Leaf && len(n.Kids) == 0 {
		return out + quoted + `"`
	}
	if !n.Leaf && len(n.Text) == 0 {
		return out + within + "]"
	}
	return out + "<" + quoted + within + ">"
}

// refused tells by the chapter's words, byte by byte, which error a text has, and where: what may stand next hangs on a few words of what stood ahead.
func refused(s string) (int, api.Errno) {
	const first, inKey, inValue, body, kids, end = 0, 1, 2, 3, 4, 5
	next, depth, from, colon, keys := first, 0, 0, 0, []string(nil)
	for i := 0; ; i++ {
		c := "" // of the text's end: no byte
		if i < len(s) {
			c = s[i : i+1]
		}
		letter, digit := c >= "a" && c <= "z", c >= "0" && c <= "9" || c == "-"
		if next == inValue && !letter && !digit {
			if e := wrongProp(keys, s[from:colon], s[colon+1:i]); e != api.OK {
				return from, e
			}
			keys = append(keys, s[from:colon])
		}
		switch {
		case next == end && c == "":
			return 0, api.OK
		case c == "{" && (next == first || next == kids):
			next, from, colon, keys = inKey, i+1, 0, nil
		case next == inKey && letter, next == inValue && (letter || digit):
		case next == inKey && i > from && c == ":":
			next, colon = inValue, i
		case next == inValue && c == ",":
			next, from = inKey, i+1
		case next == inValue && c == "}":
			next = body
		case c == "[" && (next == first || next == kids || next == body):
			next = kids
			depth++
		case c == "]" && next == kids:
			depth--
			next = behind(depth, kids, end)
		case c == `"` && (next == first || next == kids || next == body):
			text := quotedAt(s, i)
			if _, at, e := glyph.Unquote(text); e != api.OK {
				return i + at, e
			}
			i += len(text) - 1
			next = behind(depth, kids, end)
		default:
			return i, api.ErrForm
		}
	}
}

func behind(depth, kids, end int) int {
	if depth == 0 {
		return end
	}
	return kids
}

// quotedAt is what goes from the `"` at i to the next one, or to the end.
func quotedAt(s string, i int) string {
	for k := i + 1; k < len(s); k++ {
		if s[k] == '"' {
			return s[i : k+1]
		}
	}
	return s[i:]
}

func wrongProp(ahead []string, k, v string) api.Errno {
	switch {
	case len(ahead) == 16:
		return api.ErrLong
	case len(k) > 16 || len(v) > 32:
		return api.ErrKey
	case len(ahead) > 0 && k <= ahead[len(ahead)-1]:
		return api.ErrArg
	}
	return api.OK
}

// wantRead looks that a text is read as that tree, with no place.
func wantRead(t *testing.T, s string, want api.Node) {
	t.Helper()
	n, at, e := code.Parse(s)
	if show(n) != show(want) || at != 0 || e != api.OK {
		t.Errorf("%.200s: got %.200s, %d, %d, want %.200s", s, show(n), at, e, show(want))
	}
}

// wantRefused looks that a text is refused at a place, and nothing else told.
func wantRefused(t *testing.T, s string, at int, e api.Errno) {
	t.Helper()
	n, got, f := code.Parse(s)
	if show(n) != show(api.Node{}) || got != at || f != e {
		t.Errorf("%.200q: got %.200s, %d, %d, want %d, %d", s, show(n), got, f, at, e)
	}
}

// wantTold holds what is told of a text against what refused says, and what is read against its text.
func wantTold(t *testing.T, s string) (read bool) {
	t.Helper()
	at, e := refused(s)
	if e != api.OK {
		wantRefused(t, s, at, e)
		return false
	}
	n, at, e := code.Parse(s)
	if textOf(n) != s || at != 0 || e != api.OK {
		t.Errorf("%.200q: got %.200s, %d, %d", s, show(n), at, e)
	}
	return true
}

// roomy is a copy of n each list of which has room behind it, with something in that room.
func roomy(n api.Node) api.Node {
	n.Props = withRoom(n.Props, api.Prop{K: "room", V: "room"})
	n.Text = withRoom(n.Text, 0x2603)
	n.Kids = withRoom(n.Kids, leaf("room"))
	for i := range n.Kids {
		n.Kids[i] = roomy(n.Kids[i])
	}
	return n
}

func withRoom[T any](l []T, filler T) []T {
	return slices.Concat(l, slices.Repeat([]T{filler}, 3))[:len(l)]
}

// whole is n with each list as far as it has room, to see whether anybody writes there.
func whole(n api.Node) api.Node {
	many := len(n.Kids)
	n.Props = slices.Clone(n.Props[:cap(n.Props)])
	n.Text = slices.Clone(n.Text[:cap(n.Text)])
	n.Kids = slices.Clone(n.Kids[:cap(n.Kids)])
	for i := range many {
		n.Kids[i] = whole(n.Kids[i])
	}
	return n
}

// spoil writes all over a tree, at each depth, the deepest first, also behind the ends of its lists.
func spoil(n api.Node) {
	for _, k := range n.Kids {
		spoil(k)
	}
	fill(n.Props, api.Prop{K: "spoilt", V: "spoilt"})
	fill(n.Text, '!')
	fill(n.Kids, leaf("spoilt"))
}

func fill[T any](l []T, filler T) {
	l = l[:cap(l)]
	for i := range l {
		l[i] = filler
	}
}

// spots are where all that is in the lists of a tree stands, as far as these have room.
func spots(n api.Node) []any {
	out := slices.Concat(spotsOf(n.Props), spotsOf(n.Text), spotsOf(n.Kids))
	for _, k := range n.Kids {
		out = append(out, spots(k)...)
	}
	return out
}

func spotsOf[T any](l []T) []any {
	var out []any
	l = l[:cap(l)]
	for i := range l {
		out = append(out, &l[i])
	}
	return out
}

// faces are nodes without Kids, of both kinds, with each of those properties, the leaves with each of those texts.
func faces(ps [][]api.Prop, texts ...string) []api.Node {
	var out []api.Node
	for _, p := range ps {
		out = append(out, elem(p))
		for _, s := range texts {
			out = append(out, api.Node{Leaf: true, Props: p, Text: []rune(s)})
		}
	}
	return out
}

// treesOf tells all trees of so many nodes whose nodes, but for their Kids, are among those; leaves have none.
func treesOf(many int, among []api.Node) []api.Node {
	var out []api.Node
	for _, kids := range forests(many-1, among) {
		for _, n := range among {
			if n.Leaf && len(kids) > 0 {
				continue
			}
			n.Kids = kids
			out = append(out, n)
		}
	}
	return out
}

// forests tells all lists of trees that have so many nodes together.
func forests(many int, among []api.Node) [][]api.Node {
	if many == 0 {
		return [][]api.Node{nil}
	}
	var out [][]api.Node
	for first := 1; first <= many; first++ {
		rest := forests(many-first, among)
		for _, n := range treesOf(first, among) {
			for _, l := range rest {
				out = append(out, slices.Concat([]api.Node{n}, l))
			}
		}
	}
	return out
}

// smallTrees are all trees of at most four nodes of a few kinds.
func smallTrees() []api.Node {
	among := faces([][]api.Prop{nil, props("type", "p-1"), props("a", "", "b", "2")}, "", "a\n")
	var out []api.Node
	for many := 1; many <= 4; many++ {
		out = append(out, treesOf(many, among)...)
	}
	return out
}

// chain is a node under so many elements, each the only Kid of the one above it.
func chain(above int, n api.Node) api.Node {
	for range above {
		n = elem(nil, n)
	}
	return n
}

// wide is an element with so many empty leaves.
func wide(many int) api.Node {
	n := api.Node{Kids: make([]api.Node, many)}
	for i := range n.Kids {
		n.Kids[i].Leaf = true
	}
	return n
}

// sample is a tree that may be, with something of all kinds at several depths, and sampleText is its text.
func sample() api.Node {
	return elem(props("a", "1", "type", "doc"),
		leaf("ab", "bold", "1"),
		elem(props("type", "p-1"), leaf("c"), elem(nil), elem(props("b", ""), leaf(""), leaf("de", "em", "", "size", "12"))),
		elem(nil, elem(nil, elem(nil, leaf("\"[{,:}]\\", "type", "p")))),
		leaf("\x00 é\U0010ffff"))
}

const sampleText = `{a:1,type:doc}[{bold:1}"ab"{type:p-1}["c"[]{b:}[""{em:,size:12}"de"]][[[{type:p}"\22;[{,:}]\5c;"]]]"\0; \e9;\10ffff;"]`
