package tile

import (
	"math/bits"

	"scrivener/api"
	"scrivener/digest"
)

func (t *Tree) hasSpan(s api.Span) bool {
	return 0 <= s.Begin && s.Begin <= s.End && s.End <= t.Size()
}

// part is the hash of a span that has a leaf. Each bit of its length is a perfect tree, the greatest one leftmost; from the right, each is the left part of a tree with all that are behind it.
func (t *Tree) part(s api.Span) string {
	n, end, hash := s.End-s.Begin, s.End, ""
	for level := range bits.Len(uint(n)) {
		if n>>level&1 == 0 {
			continue
		}
		begin := end - 1<<level
		left := t.perfect(begin, level)
		if end == s.End {
			hash = left
		} else {
			hash = node(left, hash)
		}
		end = begin
	}
	return hash
}

// perfect is the hash of 2^level leaves from a place on. Only a complete subtree's is kept; where none begins, the tree stands askew, and is made of its halves.
func (t *Tree) perfect(begin, level int) string {
	if begin&(1<<level-1) == 0 {
		return t.hash(api.Node{Level: level, Index: begin >> level})
	}
	half := level - 1
	return node(t.perfect(begin, half), t.perfect(begin+1<<half, half))
}

// node is that of two hashes; no error can come, for both have 32 bytes.
func node(left, right string) string {
	hash, _ := digest.Node(left, right)
	return hash
}
