package frontier

import (
	"math/bits"

	"scrivener/api"
)

// The cut of a span into complete subtrees, by numbers alone.

func isPlace(n int) bool { return n >= 0 && n <= api.MaxSize }

// isRight tells whether a range may be one, whatever its hashes are.
func isRight(r api.Range) bool {
	return isPlace(r.Begin) && isPlace(r.End) && r.Begin <= r.End && len(r.Hashes) == cutLen(spanOf(r))
}

func spanOf(r api.Range) api.Span { return api.Span{Begin: r.Begin, End: r.End} }

// cutLen is how many subtrees the cut of a span has.
func cutLen(s api.Span) int {
	n := 0
	for s.Begin < s.End {
		s.Begin += 1 << firstLevel(s)
		n++
	}
	return n
}

// firstLevel is the level of the cut's first subtree, of a span that has a leaf.
func firstLevel(s api.Span) int {
	fits := bits.Len(uint(s.End-s.Begin)) - 1
	// At 0 subtrees of every level begin; TrailingZeros tells more than any level then.
	return min(fits, bits.TrailingZeros(uint(s.Begin)))
}
