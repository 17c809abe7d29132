package batch

import (
	"scrivener/api"
	"scrivener/digest"
)

// hash is one that is known: a struct of one text.
type hash struct{ bytes string }

// known are subtrees with their hashes.
type known map[api.Span]hash

// knownOf are all subtrees that have one of a batch's leaves, and their parts: those that are told, and those that are worked out of these and of the leaves.
func knownOf(b api.Batch, leaves []string) (known, api.Errno) {
	spans, e := told(b.Size, b.Indices)
	if e != api.OK {
		return nil, e
	}
	if len(b.Hashes) != len(spans) || len(leaves) != len(b.Indices) || !areHashes(b.Hashes) || !areHashes(leaves) {
		return nil, api.ErrBatchForm
	}
	k := known{}
	for i, s := range spans {
		k[s] = hash{b.Hashes[i]}
	}
	for i, index := range b.Indices {
		k[alone(index)] = hash{leaves[i]}
	}
	k.climb(b.Size, b.Indices)
	return k, api.OK
}

// climb goes up from each leaf, from the left, and makes the subtrees on its way known. Where the one beside is not known, it has a leaf further to the right: from here nothing more is to be told, and the last of those leaves goes on.
func (k known) climb(size int, indices []int) {
	for _, index := range indices {
		on := alone(index)
		for _, other := range beside(size, index) {
			if _, ok := k[other]; !ok {
				goto next
			}
			on = k.join(on, other)
		}
	next:
	}
}

// join makes the subtree known whose parts are two that are known, whichever of them is the left one, and tells it.
func (k known) join(a, b api.Span) api.Span {
	left, right := a, b
	if b.Begin < a.Begin {
		left, right = b, a
	}
	both := api.Span{Begin: left.Begin, End: right.End}
	// No error can come: both have 32 bytes.
	bytes, _ := digest.Node(k[left].bytes, k[right].bytes)
	k[both] = hash{bytes}
	return both
}

// hashes are those of subtrees that are all known, in their order.
func (k known) hashes(spans []api.Span) []string {
	l := make([]string, len(spans))
	for i, s := range spans {
		l[i] = k[s].bytes
	}
	return l
}

// alone is a leaf as a subtree.
func alone(index int) api.Span { return api.Span{Begin: index, End: index + 1} }

func areHashes(l []string) bool {
	for _, s := range l {
		if len(s) != api.HashSize {
			return false
		}
	}
	return true
}
