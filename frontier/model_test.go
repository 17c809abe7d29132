package frontier_test

import (
	"crypto/sha256"
	"math/rand"
	"strconv"

	"scrivener/api"
)

// The model takes the words as they stand: it tries every level for each subtree of a cut, and makes the hash of a subtree from the top, out of its left and its right part.

// some are n hashes, unlike those of another kind.
func some(n int, kind string) []string {
	var l []string
	for i := range n {
		l = append(l, hashOf(kind+" "+strconv.Itoa(i)))
	}
	return l
}

func hashOf(text string) string {
	h := sha256.Sum256([]byte(text))
	return string(h[:])
}

func node(left, right string) string { return hashOf("\x01" + left + right) }

// slowCut is the cut of [begin, end).
func slowCut(begin, end int) []api.Span {
	var cut []api.Span
	for begin < end {
		size := 1
		for begin%(2*size) == 0 && begin+2*size <= end {
			size *= 2
		}
		cut = append(cut, api.Span{Begin: begin, End: begin + size})
		begin += size
	}
	return cut
}

// subtrees are hashes of complete subtrees.
type subtrees map[api.Span]string

// of is the hash of a complete subtree: a known one's, or made of its parts.
func (m subtrees) of(s api.Span) string {
	if hash, ok := m[s]; ok {
		return hash
	}
	middle := (s.Begin + s.End) / 2
	return node(m.of(api.Span{Begin: s.Begin, End: middle}), m.of(api.Span{Begin: middle, End: s.End}))
}

// rangeOf is the range of [begin, end), of which all is known.
func (m subtrees) rangeOf(begin, end int) api.Range {
	r := api.Range{Begin: begin, End: end}
	for _, s := range slowCut(begin, end) {
		r.Hashes = append(r.Hashes, m.of(s))
	}
	return r
}

// know takes a range's subtrees.
func (m subtrees) know(r api.Range) {
	for i, s := range slowCut(r.Begin, r.End) {
		m[s] = r.Hashes[i]
	}
}

// slowCompact is the range of some leaves.
func slowCompact(from int, leaves []string) api.Range {
	m := subtrees{}
	for i, leaf := range leaves {
		m[api.Span{Begin: from + i, End: from + i + 1}] = leaf
	}
	return m.rangeOf(from, from+len(leaves))
}

// slowJoin is the range of two that meet.
func slowJoin(a, b api.Range) api.Range {
	m := subtrees{}
	m.know(a)
	m.know(b)
	return m.rangeOf(a.Begin, b.End)
}

// slowRoot is the root of n leaves of which the cut's hashes are told.
func slowRoot(nodes []string) string {
	switch len(nodes) {
	case 0:
		return hashOf("")
	case 1:
		return nodes[0]
	}
	return node(nodes[0], slowRoot(nodes[1:]))
}

// made is a range that is right, with made-up hashes.
func made(begin, end int, kind string) api.Range {
	return api.Range{Begin: begin, End: end, Hashes: some(len(slowCut(begin, end)), kind)}
}

// greatPlaces are places about the powers of two up to the bound, and some others, rising.
func greatPlaces(r *rand.Rand) []int {
	places := []int{0, 1, 2, 3}
	for i := 2; i < 40; i++ {
		places = append(places, 1<<i, 1<<i+1, 1<<i+r.Intn(1<<i), 1<<(i+1)-1)
	}
	return append(places, api.MaxSize)
}
