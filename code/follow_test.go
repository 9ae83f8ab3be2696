package code_test

import (
	"strings"
	"testing"

	"redline/api"
	"redline/code"
	"redline/node"
)

// wantThere looks that what is written of a tree is read as it, and written alike anew.
func wantThere(t *testing.T, n api.Node) {
	t.Helper()
	s, e := code.Print(n)
	got, at, f := code.Parse(s)
	if e != api.OK || f != api.OK || at != 0 || !node.Same(got, n) {
		t.Fatalf("%.200s: got %.200s, %.200s, %d, %d, %d", show(n), s, show(got), at, e, f)
	}
	if again, e := code.Print(got); again != s || e != api.OK {
		t.Fatalf("%.200s: got %.200s, %d, want %.200s", show(n), again, e, s)
	}
}

// P6.3: what is written is read.
func TestWrittenAndRead(t *testing.T) {
	for _, n := range smallTrees() {
		wantThere(t, n)
	}
	wantThere(t, sample())
	wantThere(t, chain(1<<16-1, leaf("a", "b", "c")))
	wantThere(t, wide(1<<18))
	wantThere(t, elem(letters(api.MaxProps, val(api.MaxVal)), leaf("", key(api.MaxKey), "")))
	var all []rune
	for c := rune(0); c <= 0x10ffff; c++ {
		if c == 0xd800 {
			c = 0xe000
		}
		all = append(all, c)
	}
	for len(all) > 0 {
		many := min(len(all), api.MaxCap-3)
		wantThere(t, elem(nil, leaf(""), api.Node{Leaf: true, Text: all[:many]}))
		all = all[many:]
	}
}

// P6.3: what is read may be, and is written so; so no two texts say the same tree.
func TestReadAndWritten(t *testing.T) {
	read := 0
	try := func(s string) {
		n, _, e := code.Parse(s)
		if e != api.OK {
			return
		}
		read++
		if got, f := code.Print(n); got != s || f != api.OK || node.Check(n) != api.OK {
			t.Fatalf("%s: got %s, %d", s, got, f)
		}
	}
	pieces := []string{`[`, `]`, `"`, `{a:`, `1`, `,b:`, `}`, `\`, `a;`}
	for size, last := 0, []string{""}; size <= 6; size++ {
		var longer []string
		for _, s := range last {
			try(s)
			if size == 6 {
				continue
			}
			for _, p := range pieces {
				longer = append(longer, s+p)
			}
		}
		last = longer
	}
	if read < 100 {
		t.Errorf("only %d texts were read", read)
	}
	for _, s := range []string{sampleText, `{type:p}[{bold:1}"a"]`, "[" + strings.Repeat(`{a:}"\a;"`, 1<<16) + "]"} {
		try(s)
	}
}

// P6.2, P6.3: a text that says more than may be is read, and what is read is not written.
func TestReadNotWritten(t *testing.T) {
	s := "[" + strings.Repeat(`""`, api.MaxCap) + "]"
	n, at, e := code.Parse(s)
	if len(n.Kids) != api.MaxCap || at != 0 || e != api.OK {
		t.Fatalf("got %d Kids, %d, %d", len(n.Kids), at, e)
	}
	if got, e := code.Print(n); got != "" || e != api.ErrLong {
		t.Errorf("got %.20s, %d", got, e)
	}
}
