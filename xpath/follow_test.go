package xpath_test

import (
	"slices"
	"testing"

	"redline/api"
	"redline/xpath"
)

// wantBack looks that a path goes somewhere by an operation, and from there back by another one.
func wantBack(t *testing.T, p []int, there, back api.Op) {
	t.Helper()
	at, is := xpath.Move(p, there)
	if !is {
		t.Fatalf("%s: nothing is told", what(p, there))
	}
	if got, is := xpath.Move(at, back); !is || !slices.Equal(got, p) {
		t.Fatalf("%s, and back: got %v, %v", what(p, there), few(got), is)
	}
}

// P8.2: what an InsertNode moved a RemoveNode at the same path moves back.
func TestInsertBack(t *testing.T) {
	all := places(4, 2)
	for _, q := range all {
		for _, p := range all {
			wantBack(t, p, insert(q...), remove(q...))
		}
	}
	// What was moved may be moved back as far as its numbers may be.
	top := api.MaxCap
	for _, q := range [][]int{path(0), path(top - 1), path(0, top), path(top-1, top)} {
		for _, p := range [][]int{path(0), path(top - 1), path(top-1, top-1), path(0, top-1)} {
			wantBack(t, p, insert(q...), remove(q...))
		}
	}
	for _, q := range [][]int{path(0), path(top), path(top - 1)} {
		wantMoves(t, []one{{insert(q...), path(top, 1), path(top+1, 1), true}})
		wantNothing(t, path(top+1, 1), remove(q...))
	}
}

// P8.2: two MoveNodes, of q to To, and back, move back, wherever To lies.
func TestMoveBack(t *testing.T) {
	all := places(3, 2)
	for _, q := range all[1:] {
		for _, to := range all[1:] {
			for _, p := range all {
				wantBack(t, p, move(q, to), move(to, q))
			}
		}
	}
	for _, q := range all {
		wantBack(t, q, move(nil, q), move(nil, q))
	}
	long := great(1<<16, 1)
	for _, p := range [][]int{long, long[1:], with(long, 1<<16-1, 2), with(long, 0, 2), path(2), path(3, 1)} {
		wantBack(t, p, move(long, path(3)), move(path(3), long))
		wantBack(t, p, move(path(3), long), move(long, path(3)))
	}
}

// P8.2: a MoveNode moves the others as the two do that it is made of.
func TestMoveIsTwo(t *testing.T) {
	all := places(3, 2)
	for _, q := range all[1:] {
		for _, p := range all {
			rest, is := xpath.Move(p, remove(q...))
			for _, to := range all {
				got, ok := xpath.Move(p, move(q, to))
				if !ok {
					t.Fatalf("%s: nothing is told", what(p, move(q, to)))
				}
				if !is {
					continue
				}
				if want, _ := xpath.Move(rest, insert(to...)); !slices.Equal(got, want) {
					t.Fatalf("%s: got %v, want %v", what(p, move(q, to)), got, want)
				}
			}
		}
	}
}

// P8.1: a SplitNode and a MergeNode behind it, with what stayed ahead, move back.
func TestSplitBack(t *testing.T) {
	all := places(3, 2)
	for _, q := range all[1:] {
		behind := with(q, len(q)-1, q[len(q)-1]+1)
		for _, p := range all {
			for pos := range 4 {
				wantBack(t, p, split(pos, q...), merge(pos, behind...))
			}
		}
	}
}
