package code_test

import (
	"strings"
	"testing"
	"unsafe"

	"redline/api"
	"redline/code"
)

// P6.2: texts that are a node's.
func TestParse(t *testing.T) {
	for _, x := range []struct {
		s    string
		want api.Node
	}{
		{`[]`, api.Node{}},
		{`""`, leaf("")},
		{`"abc"`, leaf("abc")},
		{`{bold:1}"a"`, leaf("a", "bold", "1")},
		{`{bold:}""`, leaf("", "bold", "")},
		{`{a:,b:-,c:--0-9-a-z}""`, leaf("", "a", "", "b", "-", "c", "--0-9-a-z")},
		{`{type:p}[]`, elem(props("type", "p"))},
		{`{type:p}[{bold:1}"a"]`, elem(props("type", "p"), leaf("a", "bold", "1"))},
		{`["a""b"]`, elem(nil, leaf("a"), leaf("b"))},
		{`[[][]]`, elem(nil, elem(nil), elem(nil))},
		{`[[[]]""]`, elem(nil, elem(nil, elem(nil)), leaf(""))},
		{`[""["a"]]`, elem(nil, leaf(""), elem(nil, leaf("a")))},
		{`{a:}[{c:d}"b"{e:f}[]"g"]`, elem(props("a", ""), leaf("b", "c", "d"), elem(props("e", "f")), leaf("g"))},
		{`[{b:}[{a:}""]{a:}""]`, elem(nil, elem(props("b", ""), leaf("", "a", "")), leaf("", "a", ""))},
		{`{a:,ab:,abc:,b:,ba:,z:}[]`, elem(props("a", "", "ab", "", "abc", "", "b", "", "ba", "", "z", ""))},
		{"{" + key(16) + ":" + val(32) + `}""`, leaf("", key(16), val(32))},
		{`{a:1,b:1,c:1,d:1,e:1,f:1,g:1,h:1,i:1,j:1,k:1,l:1,m:1,n:1,o:1,p:1}[]`, elem(letters(16, "1"))},
		{`[{a:1,b:1,c:1,d:1,e:1,f:1,g:1,h:1,i:1,j:1,k:1,l:1,m:1,n:1,o:1,p:1}""{a:1}""]`, elem(nil, api.Node{Leaf: true, Props: letters(16, "1")}, leaf("", "a", "1"))},
		{`"` + plain + `"`, leaf(plain)},
		{`"[{a:1}]"`, leaf("[{a:1}]")},
		{`["]"]`, elem(nil, leaf("]"))},
		{`"\22;\5c;"`, leaf(`"\`)},
		{`["\a;""\0;x"]`, elem(nil, leaf("\n"), leaf("\x00x"))},
		{`"\d7ff;\e000;\65e5;\10ffff;"`, leaf("\ud7ff\ue000日\U0010ffff")},
		{sampleText, sample()},
	} {
		wantRead(t, x.s, x.want)
	}
}

type refusal struct {
	s  string
	at int
	e  api.Errno
}

func wantAllRefused(t *testing.T, all []refusal) {
	t.Helper()
	for _, x := range all {
		wantRefused(t, x.s, x.at, x.e)
		// Within a greater text the same is told further on, as long as it is not its end that is told.
		if x.at < len(x.s) && !mended(x.s, x.at) {
			wantRefused(t, `{a:}["b"[]`+x.s, 10+x.at, x.e)
			wantRefused(t, `[[[`+x.s+`]]]`, 3+x.at, x.e)
		}
	}
}

// mended tells whether the byte at that place may stand there within an element: behind a whole node, or as the end of that element.
func mended(s string, at int) bool {
	_, e := refused(s[:at])
	return e == api.OK || at == 0 && s[0] == ']'
}

// P6.2: something other than the next byte must stand there, or the text ends.
func TestParseForm(t *testing.T) {
	const f = api.ErrForm
	wantAllRefused(t, []refusal{
		// where a node begins
		{``, 0, f},
		{`x`, 0, f},
		{` []`, 0, f},
		{"\n[]", 0, f},
		{"\ufeff[]", 0, f},
		{`]`, 0, f},
		{`}`, 0, f},
		{`:`, 0, f},
		{`,`, 0, f},
		{`\`, 0, f},
		{`'a'`, 0, f},
		{`(a)`, 0, f},
		{`a:1}[]`, 0, f},
		// where a key begins
		{`{`, 1, f},
		{`{}[]`, 1, f},
		{`{:1}[]`, 1, f},
		{`{,a:1}[]`, 1, f},
		{`{ a:1}[]`, 1, f},
		{`{1:a}[]`, 1, f},
		{`{-:a}[]`, 1, f},
		{`{A:a}[]`, 1, f},
		{`{"a":1}[]`, 1, f},
		{`{{a:1}[]`, 1, f},
		{`{a:1,`, 5, f},
		{`{a:1,}[]`, 5, f},
		{`{a:1,,b:1}[]`, 5, f},
		{`{a:1,:}[]`, 5, f},
		{`{a:1, b:1}[]`, 5, f},
		{`{a:1,B:1}[]`, 5, f},
		// behind a key
		{`{a`, 2, f},
		{`{abc`, 4, f},
		{`{a}[]`, 2, f},
		{`{a,b:1}[]`, 2, f},
		{`{a1:1}[]`, 2, f},
		{`{a-b:1}[]`, 2, f},
		{`{aB:1}[]`, 2, f},
		{`{a :1}[]`, 2, f},
		{`{a=1}[]`, 2, f},
		{`{a"1"}[]`, 2, f},
		{`{a:1,bcd`, 8, f},
		{`{a:1,b}[]`, 6, f},
		{"{" + key(17), 18, f},
		{"{" + key(17) + "}", 18, f},
		{"{" + key(17) + "1:", 18, f},
		// behind a value
		{`{a:`, 3, f},
		{`{a:1`, 4, f},
		{`{a: 1}[]`, 3, f},
		{`{a:1 }[]`, 4, f},
		{`{a:B}[]`, 3, f},
		{`{a:1B}[]`, 4, f},
		{`{a:"1"}[]`, 3, f},
		{`{a::1}[]`, 3, f},
		{`{a:1:2}[]`, 4, f},
		{`{a:1]`, 4, f},
		{`{a:1[]`, 4, f},
		{`{a:1{b:1}[]`, 4, f},
		{`{a:1;b:1}[]`, 4, f},
		{`{a:_}[]`, 3, f},
		{`{a:1,b:2`, 8, f},
		{`{a:1,b:é}[]`, 7, f},
		// behind `}`
		{`{a:1}`, 5, f},
		{`{a:1}x`, 5, f},
		{`{a:1} []`, 5, f},
		{`{a:1}]`, 5, f},
		{`{a:1}}[]`, 5, f},
		{`{a:1}{b:1}[]`, 5, f},
		{`{a:1}{a:1}[]`, 5, f},
		{`{a:1},[]`, 5, f},
		// within `[`
		{`[`, 1, f},
		{`[x]`, 1, f},
		{`[ ]`, 1, f},
		{`[,]`, 1, f},
		{`[}`, 1, f},
		{`[:`, 1, f},
		{`[[]`, 3, f},
		{`[[],[]]`, 3, f},
		{`[[] []]`, 3, f},
		{`[""`, 3, f},
		{`["","")`, 3, f},
		{`[""x]`, 3, f},
		{`["a"}`, 4, f},
		{`[[[[`, 4, f},
		{`[[[]]`, 5, f},
		{`[{a:1}]`, 6, f},
		{`[{a:1}`, 6, f},
		{`[{}]`, 2, f},
		{`[{a}]`, 3, f},
		// behind the node
		{`[]x`, 2, f},
		{`[] `, 2, f},
		{"[]\n", 2, f},
		{"[]\x00", 2, f},
		{`[]]`, 2, f},
		{`[][]`, 2, f},
		{`[]""`, 2, f},
		{`[]{a:1}`, 2, f},
		{`[],`, 2, f},
		{`"a"b`, 3, f},
		{`"a""b"`, 3, f},
		{`""]`, 2, f},
		{`""[]`, 2, f},
		{`{a:1}[]x`, 7, f},
		{`{a:1}""}`, 7, f},
		{`[[]]]`, 4, f},
		{sampleText + " ", len(sampleText), f},
	})
}

// P6.2: what is wrong with a property is told where its key begins, when its value ends.
func TestParseProps(t *testing.T) {
	sixteen := `{a:,b:,c:,d:,e:,f:,g:,h:,i:,j:,k:,l:,m:,n:,o:,p:`
	wantAllRefused(t, []refusal{
		// too many
		{sixteen + `,q:}[]`, 49, api.ErrLong},
		{sixteen + `,q:1}[]`, 49, api.ErrLong},
		{sixteen + `,q:`, 49, api.ErrLong},
		{sixteen + `,q:,r:}[]`, 49, api.ErrLong},
		{sixteen + `,q`, 50, api.ErrForm},
		{sixteen + `,q}`, 50, api.ErrForm},
		{sixteen + `,}`, 49, api.ErrForm},
		{sixteen + `,`, 49, api.ErrForm},
		{sixteen, 48, api.ErrForm},
		// too long
		{"{" + key(17) + ":}[]", 1, api.ErrKey},
		{"{" + key(17) + ":1", 1, api.ErrKey},
		{"{" + key(17) + ":", 1, api.ErrKey},
		{"{a:" + val(33) + "}[]", 1, api.ErrKey},
		{"{a:" + val(33), 1, api.ErrKey},
		{"{" + key(17) + ":" + val(33) + "}[]", 1, api.ErrKey},
		{"{" + key(16) + ":" + val(33) + "}[]", 1, api.ErrKey},
		{"{" + key(17) + ":" + val(32) + "}[]", 1, api.ErrKey},
		{"{" + key(16) + ":" + val(32) + "}x", 51, api.ErrForm},
		{"{a:1,bc:2," + key(17) + ":3}[]", 10, api.ErrKey},
		{"{a:1,bc:" + val(33) + ",d:3}[]", 5, api.ErrKey},
		{"{" + key(1<<20) + ":" + val(1<<20) + "}[]", 1, api.ErrKey},
		// not above the one's ahead
		{`{a:1,a:1}[]`, 5, api.ErrArg},
		{`{a:1,a:2}[]`, 5, api.ErrArg},
		{`{b:1,a:2}[]`, 5, api.ErrArg},
		{`{b:1,a:2`, 5, api.ErrArg},
		{`{b:1,a:`, 5, api.ErrArg},
		{`{ab:,a:}[]`, 5, api.ErrArg},
		{`{b:,aaaa:}[]`, 4, api.ErrArg},
		{`{a:,c:,b:}[]`, 7, api.ErrArg},
		{`{a:,d:,c:,e:}[]`, 7, api.ErrArg},
		{`{a:,b:,a:}[]`, 7, api.ErrArg},
		// of one property the first one of these
		{sixteen + "," + key(17) + ":}[]", 49, api.ErrLong},
		{sixteen + ",q:" + val(33) + "}[]", 49, api.ErrLong},
		{sixteen + ",a:}[]", 49, api.ErrLong},
		{sixteen + ",p:}[]", 49, api.ErrLong},
		{sixteen + ",a:" + val(33) + "}[]", 49, api.ErrLong},
		{"{z:," + key(17) + ":}[]", 4, api.ErrKey},
		{"{z:,z:" + val(33) + "}[]", 4, api.ErrKey},
		// of several properties the first one's
		{"{b:,a:," + key(17) + ":}[]", 4, api.ErrArg},
		{"{" + key(17) + ":,a:}[]", 1, api.ErrKey},
		{`{b:,a:,A`, 4, api.ErrArg},
		{`{b:,A:,a:}`, 4, api.ErrForm},
		// ahead of what stands behind the value
		{`{b:1,a:2x]`, 5, api.ErrArg},
		{`{b:1,a:X`, 5, api.ErrArg},
		{`{b:1,a:2]`, 5, api.ErrArg},
		{`{b:1,a:2:3}`, 5, api.ErrArg},
		{"{b:1,a:\x80", 5, api.ErrArg},
		{"{a:" + val(33) + " ", 1, api.ErrKey},
		{"{a:" + val(32) + " ", 35, api.ErrForm},
		{sixteen + `,q:X`, 49, api.ErrLong},
		// behind what stands ahead of the value's end
		{`{b:1,a`, 6, api.ErrForm},
		{`{b:1,a}`, 6, api.ErrForm},
		{`{b:1,a 2}`, 6, api.ErrForm},
		// each node's alone
		{`{b:}[{a:}x`, 9, api.ErrForm},
		{`[{b:}""{a:}""x]`, 13, api.ErrForm},
		{`{z:}[{b:,a:}""]`, 9, api.ErrArg},
		{`[{b:}[{z:}""{d:,c:}""]]`, 16, api.ErrArg},
	})
}

// P6.2: a quoted text goes to the next `"`, or to the end, and its error is told at its place within the whole.
func TestParseQuoted(t *testing.T) {
	const f = api.ErrForm
	wantAllRefused(t, []refusal{
		// the end too early
		{`"`, 1, f},
		{`"a`, 2, f},
		{`["a`, 3, f},
		{`{a:1}"`, 6, f},
		{`[{a:1}"abc]`, 11, f},
		{`["a""]`, 6, f},
		{`"\22;`, 5, f},
		// a `\` that begins no rune, also where the next `"` or the end comes within it
		{`"\"`, 1, f},
		{`"\""`, 1, f},
		{`"\"x`, 1, f},
		{`"a\"b"`, 2, f},
		{`"\`, 1, f},
		{`["ab\22`, 4, f},
		{`["ab\22"]`, 4, f},
		{`["a\61;"]`, 3, f},
		{`"\A;"`, 1, f},
		{`"\0a;"`, 1, f},
		{`"\d800;"`, 1, f},
		{`"\110000;"`, 1, f},
		{`"\a;\n"`, 4, f},
		{`["a"["b"{c:d}"e\f"]]`, 15, f},
		// a byte that is none of a text
		{"\"\n\"", 1, f},
		{"[\"a\n\"]", 3, f},
		{"\"\x7f\"", 1, f},
		{`"é"`, 1, f},
		{"\"a\xff\"", 2, f},
		{"{a:1}\"\x00\"", 6, f},
		// the first one of several
		{"\"a\n\\A;", 2, f},
		{`"\A;` + "\n" + `"b`, 1, f},
		{`["\q""\q"]`, 2, f},
		{`["a" "\q"]`, 4, f},
		{`{b:,a:}"\q"`, 4, api.ErrArg},
		{`["\q"{b:,a:}""]`, 2, f},
		{`"a"\`, 3, f},
	})
}

// P6.2: of every byte, wherever one may stand in a text; those above 127 stand nowhere.
func TestParseBytes(t *testing.T) {
	places := []string{`|`, `|]`, `[|`, `[|]`, `{|`, `{|a:1}""`, `{a|`, `{a|:1}""`, `{a|b:1}""`, `{a:|`, `{a:|}""`, `{a:1|`, `{a:1|2}""`, `{a:1,|`, `{a:1,|b:}""`, `{a:1}|`, `{a:1}|""`, `[[]|]`, `[""|""]`, `"|`, `"|"`, `"a|b"`, `"\|;"`, `"\1|;"`, `"\1f|"`, `""|`, `[]|`, `{a:1}[]|`}
	for n := range 256 {
		for _, p := range places {
			s := strings.Replace(p, "|", string([]byte{byte(n)}), 1)
			if read := wantTold(t, s); read && n > 127 {
				t.Errorf("%q: read", s)
			}
		}
	}
}

// P6.2: all small texts of bytes that matter, alone, and where something stands ahead of them.
func TestParseAll(t *testing.T) {
	bytes := `{}[]":,ab1\;A`
	var all []string
	for last, size := []string{""}, 0; size <= 4; size++ {
		all = append(all, last...)
		var longer []string
		for _, s := range last {
			for i := range bytes {
				longer = append(longer, s+bytes[i:i+1])
			}
		}
		last = longer
	}
	read := 0
	for _, ahead := range []string{``, `[`, `{a:`, `{b:1,`, `{b:1,a`, `{b:}`, `[[]`, `["`, `[{a:1}`, `"\2`} {
		for _, s := range all {
			if wantTold(t, ahead+s) {
				read++
			}
		}
		if t.Failed() {
			return
		}
	}
	if read == 0 {
		t.Error("no text was one")
	}
}

// P6.2: a text that ends anywhere within a node's, has a byte more behind it, or another one anywhere, or one too many, or one too few.
func TestParseChanged(t *testing.T) {
	for _, s := range []string{`[]`, `""`, `{a:1}"b"`, sampleText, `{a:1,b:1,c:1,d:1,e:1,f:1,g:1,h:1,i:1,j:1,k:1,l:1,m:1,n:1,o:1,p:1}["\22;"]`, "[{" + key(16) + ":" + val(32) + `}""]`} {
		if !wantTold(t, s) {
			t.Fatalf("%s: not read", s)
		}
		for i := range s {
			if wantTold(t, s[:i]) {
				t.Errorf("%s: read, though it ends too early", s[:i])
			}
			wantTold(t, s[:i]+s[i+1:])
		}
		for n := range 256 {
			c := string([]byte{byte(n)})
			if wantTold(t, s+c) {
				t.Errorf("%q: read, though it goes on", s+c)
			}
			for i := range s {
				wantTold(t, s[:i]+c+s[i:])
				wantTold(t, s[:i]+c+s[i+1:])
			}
		}
		if t.Failed() {
			return
		}
	}
}

// P6.2: also of long, wide, and deep texts, and of trees that are greater than may be.
func TestParseGreat(t *testing.T) {
	many := 1 << 18
	wantRead(t, `"`+strings.Repeat("a", many)+`"`, leaf(strings.Repeat("a", many)))
	wantRead(t, "["+strings.Repeat(`""`, many)+"]", wide(many))
	wantRead(t, strings.Repeat("[", 1<<16-1)+`"a"`+strings.Repeat("]", 1<<16-1), chain(1<<16-1, leaf("a")))
	wantRefused(t, `["`+strings.Repeat("a", many), many+2, api.ErrForm)
	wantRefused(t, `["`+strings.Repeat("a", many)+"\n"+`"]`, many+2, api.ErrForm)
	wantRefused(t, "["+strings.Repeat(`"a"`, many), 3*many+1, api.ErrForm)
	wantRefused(t, "["+strings.Repeat(`"a"`, many)+`"\"]`, 3*many+2, api.ErrForm)
	wantRefused(t, strings.Repeat("[", 4*many), 4*many, api.ErrForm)
	wantRefused(t, strings.Repeat("{a:}[", many), 5*many, api.ErrForm)
	wantRefused(t, strings.Repeat("[", 1<<16)+strings.Repeat("]", 1<<16+1), 1<<17, api.ErrForm)
	wantRefused(t, "{a:}[]"+strings.Repeat("a", many), 6, api.ErrForm)
	wantRefused(t, "{"+strings.Repeat("a", many), many+1, api.ErrForm)
}

// R2: no two lists of what is told share anything, nor does what is told share anything with what is told another time, not even behind a list's end.
func TestParseNew(t *testing.T) {
	wideText := "[" + strings.Repeat(`{a:1,b:2}"cd"[""[]]`, 20) + "]"
	for _, s := range []string{`{a:1,b:2,c:3}"def"`, sampleText, wideText} {
		one, _, _ := code.Parse(s)
		two, _, _ := code.Parse(s)
		seen := map[any]bool{}
		for _, p := range append(spots(one), spots(two)...) {
			if seen[p] {
				t.Fatalf("%s: something is shared", s)
			}
			seen[p] = true
		}
		spoil(one)
		three, at, e := code.Parse(s)
		if textOf(two) != s || textOf(three) != s || at != 0 || e != api.OK {
			t.Errorf("%s: got %s, and %s, %d, %d", s, textOf(two), textOf(three), at, e)
		}
	}
}

// R2: keys and values are no pieces of the text that was handed in.
func TestParseKeepsNothing(t *testing.T) {
	s := `{abc:1,d:23}[{type:p-1}"a"]`
	from := uintptr(unsafe.Pointer(unsafe.StringData(s)))
	n, _, _ := code.Parse(s)
	for _, p := range append(n.Props, n.Kids[0].Props...) {
		for _, x := range []string{p.K, p.V} {
			at := uintptr(unsafe.Pointer(unsafe.StringData(x)))
			if from <= at && at < from+uintptr(len(s)) {
				t.Errorf("%s: a piece of the text", x)
			}
		}
	}
}
