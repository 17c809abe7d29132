package extract

import (
	"math/bits"
	"slices"

	"scrivener/api"
	"scrivener/digest"
	"scrivener/recursion"
)

// Walks go down from a root that both sides have in common. As long as the texts are the same, so are the hashes within, and so the results of the step below: the first texts that differ have one digest.

// What stands ahead of an entry and of two hashes, in the texts whose digests a leaf and a node are (chapter 1).
const (
	leafMark = "\x00"
	nodeMark = "\x01"
)

// compare gives the walk up with the texts of a step, if they differ.
func compare(a, b string) {
	if a != b {
		panic(api.Pair{A: a, B: b})
	}
}

// partLeaves goes down to where two lists with one root part.
func partLeaves(a, b []string) {
	for len(a) > 1 {
		k := recursion.Split(len(a))
		compare(partsText(a, k), partsText(b, k))
		if slices.Equal(a[:k], b[:k]) {
			a, b = a[k:], b[k:]
		} else {
			a, b = a[:k], b[:k]
		}
	}
}

// partPaths goes down to where two paths to one root part.
func partPaths(forks []fork, leaf string, path []string, other string, way []string) {
	texts := climb(forks, other, way)
	for i, text := range climb(forks, leaf, path) {
		compare(text, texts[i])
	}
}

// partProof goes down to where a proof parts from the leaves to whose root it leads.
func partProof(leaves []string, first int, old string, proof []string) {
	from, beside := old, proof
	if bits.OnesCount(uint(first)) != 1 {
		from, beside = proof[0], proof[1:]
	}
	forks := proofForks(len(leaves), first)
	for i, text := range climb(forks, from, beside) {
		f := forks[i]
		compare(text, partsText(leaves[f.begin:f.end], f.middle-f.begin))
	}
}

// partsText is the text of the node of the first k leaves and the others.
func partsText(leaves []string, k int) string {
	// No error can come: whoever calls has taken the root of all leaves.
	left, _ := recursion.Root(leaves[:k])
	right, _ := recursion.Root(leaves[k:])
	return nodeMark + left + right
}

// fork is a subtree from begin on, up to end, that parts at middle; a way through it goes on in one of its parts.
type fork struct {
	begin, middle, end int
	right              bool
}

// pathForks are those on the way to a leaf, from the root on down.
func pathForks(size, index int) []fork {
	var forks []fork
	begin, end := 0, size
	for end-begin > 1 {
		middle := begin + recursion.Split(end-begin)
		f := fork{begin, middle, end, index >= middle}
		forks = append(forks, f)
		if f.right {
			begin = middle
		} else {
			end = middle
		}
	}
	return forks
}

// proofForks are those on the way to the subtree with which a proof begins: the greatest one that ends where the first leaves do. It is met on the way to the last of these.
func proofForks(size, first int) []fork {
	forks := pathForks(size, first-1)
	for i, f := range forks {
		if f.end == first {
			return forks[:i]
		}
	}
	return forks
}

// climb goes up through the forks by the hashes that stand beside the way, from below; it tells the texts of the steps, from the top.
func climb(forks []fork, from string, beside []string) []string {
	texts := make([]string, len(forks))
	reached := from
	for i, hash := range beside {
		at := len(forks) - 1 - i
		texts[at] = nodeMark + reached + hash
		if forks[at].right {
			texts[at] = nodeMark + hash + reached
		}
		reached = digest.Sum(texts[at])
	}
	return texts
}
