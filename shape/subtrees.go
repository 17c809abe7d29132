package shape

import (
	"iter"
	"math/bits"
	"slices"

	"scrivener/api"
)

// The subtrees of trees whose sizes were checked, told one by one.

func length(s api.Span) int { return s.End - s.Begin }

// parts are the left and the right one, of a span of more than one leaf.
func parts(s api.Span) (left, right api.Span) {
	middle := s.Begin + 1<<(bits.Len(uint(length(s)-1))-1)
	return api.Span{Begin: s.Begin, End: middle}, api.Span{Begin: middle, End: s.End}
}

// toward is the part that has a leaf, of a span of more than one that has it.
func toward(s api.Span, leaf int) api.Span {
	left, right := parts(s)
	if leaf < left.End {
		return left
	}
	return right
}

// beside is the other part.
func beside(s api.Span, leaf int) api.Span {
	left, right := parts(s)
	if leaf < left.End {
		return right
	}
	return left
}

// way tells the subtrees that have a leaf, from the whole tree down to the leaf alone.
func way(size, leaf int) iter.Seq[api.Span] {
	return func(yield func(api.Span) bool) {
		s := api.Span{End: size}
		for yield(s) && length(s) > 1 {
			s = toward(s, leaf)
		}
	}
}

// counting tells how many wanted leaves a span has.
type counting func(s api.Span) int

// listed counts those of a list that rises.
func listed(indices []int) counting {
	return func(s api.Span) int {
		from, _ := slices.BinarySearch(indices, s.Begin)
		to, _ := slices.BinarySearch(indices, s.End)
		return to - from
	}
}

// spanned counts those of a span.
func spanned(all api.Span) counting {
	return func(s api.Span) int {
		return max(0, min(s.End, all.End)-max(s.Begin, all.Begin))
	}
}

// bare tells, from the left, the greatest subtrees that have no wanted leaf. Where all leaves are wanted, it does not go down: there may be 2^40 of them.
func bare(size int, wanted counting) iter.Seq[api.Span] {
	return func(yield func(api.Span) bool) {
		todo := []api.Span{{End: size}}
		for len(todo) > 0 {
			s := todo[len(todo)-1]
			todo = todo[:len(todo)-1]
			n := wanted(s)
			if n == 0 && !yield(s) {
				return
			}
			if n > 0 && n < length(s) {
				left, right := parts(s)
				todo = append(todo, right, left)
			}
		}
	}
}

// without is a list of these.
func without(size int, wanted counting) []api.Span {
	var spans []api.Span
	for s := range bare(size, wanted) {
		spans = append(spans, s)
	}
	return spans
}

// complete tells the complete subtrees of which a span is made, from the left.
func complete(s api.Span) iter.Seq[api.Node] {
	return func(yield func(api.Node) bool) {
		for s.Begin < s.End {
			level := firstLevel(s)
			if !yield(api.Node{Level: level, Index: s.Begin >> level}) {
				return
			}
			s.Begin += 1 << level
		}
	}
}

// firstLevel is the level of the greatest complete subtree with which a span may begin.
func firstLevel(s api.Span) int {
	fits := bits.Len(uint(length(s))) - 1
	// At 0 subtrees of every level begin; TrailingZeros tells more than any level then.
	return min(fits, bits.TrailingZeros(uint(s.Begin)))
}
