package chain

import (
	"math/bits"
	"slices"

	"scrivener/api"
	"scrivener/shape"
)

// told are the spans that were told, in their order; the place of each stands under its two ends.
type told struct {
	spans  []api.Span
	places map[[2]int]int
}

// toldOf are those of a chain, of heads that may be.
func toldOf(heads []int) told {
	t := told{places: map[[2]int]int{}}
	for i := range len(heads) - 1 {
		for _, s := range between(heads[i], heads[i+1]) {
			if !t.canFold(s) {
				t.add(s)
			}
		}
	}
	return t
}

func (t *told) add(s api.Span) {
	t.places[ends(s)] = len(t.spans)
	t.spans = append(t.spans, s)
}

// canFold tells it by numbers alone: layer 8's Fold would work out hashes, too. It ends soon, however great a span is, since it does not go into a right part unless all of the left one was told.
func (t *told) canFold(s api.Span) bool {
	if _, ok := t.places[ends(s)]; ok {
		return true
	}
	if s.End-s.Begin == 1 {
		return false
	}
	left, right := parts(s)
	return t.canFold(left) && t.canFold(right)
}

// known are spans with their hashes: those that were told, and those that have been folded of them.
type known struct {
	told
	hashes []string
}

// knownOf are those that a chain tells, if it has its form.
func knownOf(c api.Chain) (known, api.Errno) {
	if !mayBe(c.Heads) {
		return known{}, api.ErrChainHeads
	}
	t := toldOf(c.Heads)
	if len(c.Hashes) != len(t.spans) || !areHashes(c.Hashes) {
		return known{}, api.ErrChainForm
	}
	return known{t, slices.Clone(c.Hashes)}, api.OK
}

// proof is that of a pair.
func (k *known) proof(first, second int) []string {
	spans := between(first, second)
	hashes := make([]string, len(spans))
	for i, s := range spans {
		hashes[i] = k.hash(second, s)
	}
	return hashes
}

// hash is that of a span in the tree of a size, told or folded. What was told behind it changes nothing of it: a span that can be folded is never told, so it is folded of the same ones, however many came since. Nor does it matter, therefore, that it counts as told from here on, so that it is folded once.
func (k *known) hash(size int, s api.Span) string {
	if place, ok := k.places[ends(s)]; ok {
		return k.hashes[place]
	}
	// No error can come: what a chain of the form does not tell can be folded, and it has fewer spans than Fold takes.
	hash, _ := shape.Fold(size, k.spans, k.hashes, s)
	k.add(s)
	k.hashes = append(k.hashes, hash)
	return hash
}

// between are the spans of a pair's proof. No error can come: both heads may be.
func between(first, second int) []api.Span {
	spans, _ := shape.Proof(first, second)
	return spans
}

// parts are the left and the right one, of a span of more than one leaf.
func parts(s api.Span) (left, right api.Span) {
	middle := s.Begin + 1<<(bits.Len(uint(s.End-s.Begin-1))-1)
	return api.Span{Begin: s.Begin, End: middle}, api.Span{Begin: middle, End: s.End}
}

// ends are those of a span.
func ends(s api.Span) [2]int { return [2]int{s.Begin, s.End} }
