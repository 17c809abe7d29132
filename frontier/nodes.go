package frontier

import (
	"scrivener/api"
	"scrivener/digest"
)

// nodeList is the hashes of the subtrees of a cut, from the left.
type nodeList []string

// take makes the list of the cut of s that of s and of a complete subtree that begins where s ends, of 2^level leaves.
func (l *nodeList) take(s api.Span, level int, hash string) {
	// As long as the subtree is a right part whose left part lies within s, that one is the last of the cut: both become one.
	for s.End>>level&1 == 1 && s.End-1<<level >= s.Begin {
		last := len(*l) - 1
		hash = node((*l)[last], hash)
		*l = (*l)[:last]
		s.End -= 1 << level
		level++
	}
	*l = append(*l, hash)
}

// root is the tree's, of a cut that begins at 0.
func (l nodeList) root() string {
	if len(l) == 0 {
		return digest.Empty()
	}
	last := len(l) - 1
	r := l[last]
	for i := range last {
		r = node(l[last-1-i], r)
	}
	return r
}

// copied is a list in memory of its own.
func (l nodeList) copied() nodeList {
	c := make(nodeList, len(l))
	copy(c, l)
	return c
}

func isHash(s string) bool { return len(s) == api.HashSize }

func areHashes(l []string) bool {
	for _, s := range l {
		if !isHash(s) {
			return false
		}
	}
	return true
}

// node is that of two hashes; no error can come, for both have 32 bytes.
func node(left, right string) string {
	hash, _ := digest.Node(left, right)
	return hash
}
