package table_test

import (
	"strings"
	"testing"
	"time"

	"redline/api"
	"redline/table"
)

// quick looks that something is done soon, also on a slow machine: what takes steps by the square takes longer.
func quick(t *testing.T, name string, do func()) {
	t.Helper()
	from := time.Now()
	do()
	if d := time.Since(from); d > 20*time.Second {
		t.Fatalf("%s took %v", name, d)
	}
}

// P15.2: the greatest schemas that may be are looked at soon, also such in which each rule wraps.
func TestGreatest(t *testing.T) {
	s := full()
	for i := range s.Rules {
		r := &s.Rules[i]
		r.Text, r.Other = wrap("t00031"), wrap("t00031")
		if i == 31 {
			r.Text, r.Other = keep(), keep()
		}
	}
	s.Else.Text = keep()
	quick(t, "one that may be", func() {
		for range 10 {
			wantMay(t, "greatest", s, 33)
		}
	})
	for i := range s.Rules {
		for j := range s.Rules[i].Kids {
			if s.Rules[i].Kids[j].Type != "t00031" && s.Rules[i].Kids[j].Type != s.Rules[i].FillType {
				s.Rules[i].Kids[j].Act = wrap("t00031")
			}
			if i == 31 {
				s.Rules[i].Kids[j].Act = keep()
			}
		}
	}
	quick(t, "one that wraps everywhere", func() {
		for range 10 {
			wantMay(t, "greatest", s, 33)
		}
	})
}

// P15.1, P15.2, wrong inputs: schemas that are far too great are told of soon.
func TestTooGreat(t *testing.T) {
	s := plain(rows(1 << 18)...)
	for i := range s.Rules {
		s.Rules[i].Fill, s.Rules[i].FillType = api.ElemFill, s.Rules[(i+1)%len(s.Rules)].Type
	}
	quick(t, "rules", func() { wantNot(t, "rules", s) })
	quick(t, "names of many", func() { table.Names(s) })
	long := plain(strings.Repeat("a", 1<<26))
	quick(t, "a long name", func() {
		wantNot(t, "a long name", long)
		wantNames(t, "a long name", long, long.Rules[0].Type)
		wantRule(t, long, strings.Repeat("a", 1<<26), long.Rules[0])
	})
	deep := leaf("a")
	for range 1 << 16 {
		deep = elem("p", deep)
	}
	quick(t, "a deep node", func() {
		for range 1000 {
			if a := table.ActOf(page().Rules[0], deep); a != keep() {
				t.Fatalf("got %v", a)
			}
		}
	})
}
