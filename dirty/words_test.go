package dirty_test

import (
	"slices"

	"redline/api"
	"redline/xpath"
)

// What the chapter's words say is asked here of each element's path p by itself, so that nothing is sorted, and no path is made.

// parentOf tells whether p is the parent of q.
func parentOf(p, q []int) bool { return len(q) == len(p)+1 && slices.Equal(p, q[:len(p)]) }

// begins tells whether q is p, or below it.
func begins(q, p []int) bool { return len(q) >= len(p) && slices.Equal(p, q[:len(p)]) }

// above tells whether p is above q.
func above(p, q []int) bool { return len(q) > len(p) && slices.Equal(p, q[:len(p)]) }

// ahead tells whether p is the path just ahead of q, beside it. What p has are places, so one more is never too great.
func ahead(p, q []int) bool {
	last := len(p) - 1
	return last >= 0 && len(q) == len(p) && slices.Equal(p[:last], q[:last]) && p[last]+1 == q[last]
}

// behind tells whether p is the path just behind q, beside it.
func behind(p, q []int) bool {
	last := len(p) - 1
	return last >= 0 && len(q) == len(p) && slices.Equal(p[:last], q[:last]) && p[last]-1 == q[last]
}

// goes tells whether an operation takes q to p.
func goes(q []int, o api.Op, p []int) bool {
	to, is := xpath.Move(q, o)
	return is && slices.Equal(to, p)
}

// marks tells whether P13.2 names p.
func marks(o api.Op, p []int) bool {
	switch q := o.Path; o.Kind {
	case api.InsertNode:
		return parentOf(p, q) || begins(p, q)
	case api.RemoveNode:
		return parentOf(p, q)
	case api.MergeNode:
		return parentOf(p, q) || ahead(p, q)
	case api.SplitNode:
		return parentOf(p, q) || slices.Equal(p, q) || behind(p, q)
	case api.MoveNode:
		return parentOf(p, o.To) || len(q) > 0 && goes(q[:len(q)-1], o, p)
	case api.SetNode, api.InsertText, api.RemoveText:
		return parentOf(p, q) || slices.Equal(p, q)
	}
	return false
}

func markedBy(n api.Node, o api.Op) [][]int {
	return slices.DeleteFunc(elementsOf(n), func(p []int) bool { return !marks(o, p) })
}

// steppedBy is what P13.3 tells.
func steppedBy(n api.Node, l [][]int, o api.Op) [][]int {
	return slices.DeleteFunc(elementsOf(n), func(p []int) bool {
		return !marks(o, p) && !slices.ContainsFunc(l, func(q []int) bool { return goes(q, o, p) })
	})
}

// readyOf is what P13.4 tells.
func readyOf(l [][]int) [][]int {
	out := slices.DeleteFunc(slices.Clone(l), func(p []int) bool {
		return slices.ContainsFunc(l, func(q []int) bool { return above(q, p) })
	})
	slices.SortFunc(out, slices.Compare)
	return slices.CompactFunc(out, slices.Equal)
}
