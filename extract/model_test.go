package extract_test

import (
	"crypto/sha256"
	"slices"
	"strconv"

	"scrivener/api"
	"scrivener/digest"
)

// The model goes paths and proofs up by the numbers of chapter 4 that are halved, and keeps every step with the subtree whose root it tells. It takes the digest from the program, so that it goes with a weak one, too; all else is its own.

// some are n hashes, unlike those of another kind.
func some(n int, kind string) []string {
	var l []string
	for i := range n {
		l = append(l, strongHash(kind+" "+strconv.Itoa(i)))
	}
	return l
}

func strongHash(text string) string {
	h := sha256.Sum256([]byte(text))
	return string(h[:])
}

func areHashes(lists ...[]string) bool {
	for _, l := range lists {
		for _, s := range l {
			if len(s) != 32 {
				return false
			}
		}
	}
	return true
}

func half(n int) int {
	k := 1
	for 2*k < n {
		k *= 2
	}
	return k
}

func slowRoot(l []string) string {
	switch len(l) {
	case 0:
		return digest.Sum()
	case 1:
		return l[0]
	}
	return digest.Sum(stepOf(l))
}

// stepOf is the text of the node of both parts of a list.
func stepOf(l []string) string {
	k := half(len(l))
	return "\x01" + slowRoot(l[:k]) + slowRoot(l[k:])
}

// walk is a walk up: its steps from below, each with the span of its subtree; and what it leads to.
type walk struct {
	texts  []string
	spans  []api.Span
	result string
	old    string // of a proof: what it leads to as the old root
	ok     bool   // the hashes were just used up
}

// upPath goes up a path.
func upPath(size, index int, leaf string, path []string) walk {
	w := walk{result: leaf, ok: true}
	f, s, level := index, size-1, 0
	halve := func() { f, s, level = f/2, s/2, level+1 }
	for s != 0 {
		if len(path) == 0 {
			return walk{}
		}
		hash := path[0]
		path = path[1:]
		text := "\x01" + w.result + hash
		if f%2 == 1 || f == s {
			text = "\x01" + hash + w.result
			for f%2 == 0 {
				halve()
			}
		}
		halve()
		w.step(text, api.Span{Begin: f << level, End: min((f+1)<<level, size)})
	}
	w.ok = len(path) == 0
	return w
}

// upProof goes up a proof from a first size to a greater one.
func upProof(first, second int, old string, proof []string) walk {
	f, s, level := first-1, second-1, 0
	halve := func() { f, s, level = f/2, s/2, level+1 }
	for f%2 == 1 {
		halve()
	}
	if f != 0 {
		if len(proof) == 0 {
			return walk{}
		}
		old, proof = proof[0], proof[1:]
	}
	w := walk{result: old, old: old, ok: true}
	for s != 0 {
		if len(proof) == 0 {
			return walk{}
		}
		hash := proof[0]
		proof = proof[1:]
		text := "\x01" + w.result + hash
		if f%2 == 1 || f == s {
			text = "\x01" + hash + w.result
			w.old = digest.Sum("\x01" + hash + w.old)
			for f%2 == 0 && f != 0 {
				halve()
			}
		}
		halve()
		w.step(text, api.Span{Begin: f << level, End: min((f+1)<<level, second)})
	}
	w.ok = len(proof) == 0
	return w
}

func (w *walk) step(text string, s api.Span) {
	w.texts, w.spans, w.result = append(w.texts, text), append(w.spans, s), digest.Sum(text)
}

// answer is what a call answers; depth tells how many steps stand above the one that was found.
type answer struct {
	pair  api.Pair
	e     api.Errno
	depth int
}

func refused(e api.Errno) answer { return answer{e: e} }

// highest is the highest step in which two walks with one result differ.
func highest(one, other []string) answer {
	for i := len(one) - 1; i >= 0; i-- {
		if one[i] != other[i] && digest.Sum(one[i]) == digest.Sum(other[i]) {
			return answer{pair: api.Pair{A: one[i], B: other[i]}, depth: len(one) - 1 - i}
		}
	}
	return answer{e: -1}
}

func slowEntries(a, b string) answer {
	if a == b || digest.Sum("\x00"+a) != digest.Sum("\x00"+b) {
		return refused(api.ErrExtractNone)
	}
	return answer{pair: api.Pair{A: "\x00" + a, B: "\x00" + b}}
}

func slowLeaves(a, b []string) answer {
	if len(a) != len(b) || len(a) > 4096 || !areHashes(a, b) {
		return refused(api.ErrArg)
	}
	if slices.Equal(a, b) || slowRoot(a) != slowRoot(b) {
		return refused(api.ErrExtractNone)
	}
	return downLeaves(a, b, 0)
}

func downLeaves(a, b []string, depth int) answer {
	if len(a) < 2 || slices.Equal(a, b) || slowRoot(a) != slowRoot(b) {
		return answer{e: -1}
	}
	if one, other := stepOf(a), stepOf(b); one != other {
		return answer{pair: api.Pair{A: one, B: other}, depth: depth}
	}
	k := half(len(a))
	if !slices.Equal(a[:k], b[:k]) {
		return downLeaves(a[:k], b[:k], depth+1)
	}
	return downLeaves(a[k:], b[k:], depth+1)
}

// paths are the arguments of Inclusion.
type paths struct {
	size, index int
	root, leaf  string
	path        []string
	other       string
	way         []string
}

func (p paths) slow() answer {
	if p.size < 1 || p.size > 1<<40 || p.index < 0 || p.index >= p.size || !areHashes(p.path, p.way, []string{p.root, p.leaf, p.other}) {
		return refused(api.ErrExtractProof)
	}
	one, other := upPath(p.size, p.index, p.leaf, p.path), upPath(p.size, p.index, p.other, p.way)
	if !one.ok || !other.ok || one.result != p.root || other.result != p.root {
		return refused(api.ErrExtractProof)
	}
	if p.leaf == p.other && slices.Equal(p.path, p.way) {
		return refused(api.ErrExtractNone)
	}
	return highest(one.texts, other.texts)
}

// proofs are the arguments of Consistency.
type proofs struct {
	leaves []string
	first  int
	old    string
	proof  []string
}

func (p proofs) slow() answer {
	n := len(p.leaves)
	if n > 4096 || !areHashes(p.leaves) {
		return refused(api.ErrArg)
	}
	if p.first < 1 || p.first > n || !areHashes(p.proof, []string{p.old}) {
		return refused(api.ErrExtractProof)
	}
	now := slowRoot(p.leaves)
	if p.first == n {
		if len(p.proof) != 0 || p.old != now {
			return refused(api.ErrExtractProof)
		}
		return refused(api.ErrExtractNone)
	}
	w := upProof(p.first, n, p.old, p.proof)
	if !w.ok || w.old != p.old || w.result != now {
		return refused(api.ErrExtractProof)
	}
	if slowRoot(p.leaves[:p.first]) == p.old {
		return refused(api.ErrExtractNone)
	}
	var second []string
	for _, s := range w.spans {
		second = append(second, stepOf(p.leaves[s.Begin:s.End]))
	}
	return highest(w.texts, second)
}
