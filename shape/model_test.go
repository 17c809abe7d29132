package shape_test

import (
	"crypto/sha256"
	"math"
	"math/rand"
	"slices"
	"strconv"
	"strings"

	"scrivener/api"
)

// The model takes the words as they stand. Of small trees it lists all subtrees and picks; of great ones it goes down by a recursion, while the program goes by loops.

// at is the span [begin, end).
func at(begin, end int) api.Span { return api.Span{Begin: begin, End: end} }

func hashOf(text string) string {
	h := sha256.Sum256([]byte(text))
	return string(h[:])
}

func node(left, right string) string { return hashOf("\x01" + left + right) }

// some are n hashes, unlike those of another kind.
func some(n int, kind string) []string {
	var l []string
	for i := range n {
		l = append(l, hashOf(kind+" "+strconv.Itoa(i)))
	}
	return l
}

// half is the greatest power of two below n.
func half(n int) int {
	k := 1
	for 2*k < n {
		k *= 2
	}
	return k
}

// cutAt is where the left part of a span ends.
func cutAt(s api.Span) int { return s.Begin + half(s.End-s.Begin) }

// subtreesOf are those of a span, each ahead of its parts.
func subtreesOf(s api.Span) []api.Span {
	if s.End-s.Begin == 1 {
		return []api.Span{s}
	}
	k := cutAt(s)
	return slices.Concat([]api.Span{s}, subtreesOf(at(s.Begin, k)), subtreesOf(at(k, s.End)))
}

// isSubtree says it in one line: a subtree's first leaf is a multiple of a power of two, and it has so many leaves, or those that are left.
func isSubtree(n int, s api.Span) bool {
	for p := 1; p < 2*n; p *= 2 {
		if s.Begin >= 0 && s.Begin < n && s.Begin%p == 0 && s.End == min(s.Begin+p, n) {
			return true
		}
	}
	return false
}

// slowCover tries every level, from the greatest one on.
func slowCover(s api.Span) []api.Node {
	var nodes []api.Node
	for s.Begin < s.End {
		level := 40
		for s.Begin%(1<<level) != 0 || s.Begin+1<<level > s.End {
			level--
		}
		nodes = append(nodes, api.Node{Level: level, Index: s.Begin / (1 << level)})
		s.Begin += 1 << level
	}
	return nodes
}

// slowPath is P of chapter 3, by spans.
func slowPath(s api.Span, m int) []api.Span {
	k := cutAt(s)
	switch {
	case s.End-s.Begin == 1:
		return nil
	case m < k:
		return append(slowPath(at(s.Begin, k), m), at(k, s.End))
	default:
		return append(slowPath(at(k, s.End), m), at(s.Begin, k))
	}
}

// slowProof is S of chapter 3, by spans; the first leaves end at m.
func slowProof(s api.Span, m int, whole bool) []api.Span {
	k := cutAt(s)
	switch {
	case m == s.End && whole:
		return nil
	case m == s.End:
		return []api.Span{s}
	case m <= k:
		return append(slowProof(at(s.Begin, k), m, whole), at(k, s.End))
	default:
		return append(slowProof(at(k, s.End), m, false), at(s.Begin, k))
	}
}

// slowMany is M of chapter 3, by spans: of those that have wanted leaves, and others, the parts are gone into.
func slowMany(s api.Span, any, all func(s api.Span) bool) []api.Span {
	switch {
	case !any(s):
		return []api.Span{s}
	case all(s):
		return nil
	}
	k := cutAt(s)
	return append(slowMany(at(s.Begin, k), any, all), slowMany(at(k, s.End), any, all)...)
}

func slowBatch(n int, indices []int) []api.Span {
	any := func(s api.Span) bool {
		return slices.ContainsFunc(indices, func(i int) bool { return s.Begin <= i && i < s.End })
	}
	return slowMany(at(0, n), any, func(s api.Span) bool { return s.End-s.Begin == 1 })
}

func slowRun(n int, x api.Span) []api.Span {
	any := func(s api.Span) bool { return s.Begin < x.End && x.Begin < s.End }
	return slowMany(at(0, n), any, func(s api.Span) bool { return x.Begin <= s.Begin && s.End <= x.End })
}

// picked says H4 of a small tree word by word: a subtree that has none of the leaves, but is a part of one that has some.
func picked(n int, indices []int) []api.Span {
	has := func(s api.Span) bool {
		return slices.ContainsFunc(indices, func(i int) bool { return s.Begin <= i && i < s.End })
	}
	var told []api.Span
	for _, s := range subtreesOf(at(0, n)) {
		if s.End-s.Begin == 1 || !has(s) {
			continue
		}
		k := cutAt(s)
		for _, part := range []api.Span{at(s.Begin, k), at(k, s.End)} {
			if !has(part) {
				told = append(told, part)
			}
		}
	}
	slices.SortFunc(told, func(a, b api.Span) int { return a.Begin - b.Begin })
	return told
}

// slowFold says H5 of a small tree word by word.
func slowFold(known []api.Span, hashes []string, s api.Span) (string, bool) {
	if i := slices.Index(known, s); i >= 0 {
		return hashes[i], true
	}
	if s.End-s.Begin == 1 {
		return "", false
	}
	k := cutAt(s)
	a, isLeft := slowFold(known, hashes, at(s.Begin, k))
	b, isRight := slowFold(known, hashes, at(k, s.End))
	if !isLeft || !isRight {
		return "", false
	}
	return node(a, b), true
}

// hashOfSpan is the hash of a span of some leaves.
func hashOfSpan(l []string, s api.Span) string {
	if s.End-s.Begin == 1 {
		return l[s.Begin]
	}
	k := cutAt(s)
	return node(hashOfSpan(l, at(s.Begin, k)), hashOfSpan(l, at(k, s.End)))
}

// greatSizes are sizes about the powers of two up to the bound, and some others.
func greatSizes(r *rand.Rand) []int {
	var sizes []int
	for i := 6; i <= 40; i++ {
		sizes = append(sizes, 1<<i-1, 1<<i)
		if i < 40 {
			sizes = append(sizes, 1<<i+1, 1<<i+1<<(i/2), 1<<i+r.Intn(1<<i))
		}
	}
	return append(sizes, api.MaxSize-2, 1<<39+1<<20)
}

// edges are leaves of a great tree: those at its ends and where it is parted, and some others.
func edges(r *rand.Rand, n int) []int {
	l := []int{0, 1, 2, n/2 - 1, n / 2, half(n) - 1, half(n), half(n) + 1, n - 3, n - 2, n - 1, r.Intn(n), r.Intn(n)}
	return slices.DeleteFunc(l, func(m int) bool { return m >= n })
}

// someOf are k leaves of n, rising: any, or all close to one another.
func someOf(r *rand.Rand, n, k int) []int {
	from, width := 0, n
	if r.Intn(2) == 0 {
		width = min(n, k+r.Intn(3*k))
		from = r.Intn(n - width + 1)
	}
	in := map[int]int{}
	for len(in) < min(k, width) {
		in[from+r.Intn(width)] = 1
	}
	var l []int
	for i := range in {
		l = append(l, i)
	}
	slices.Sort(l)
	return l
}

// noSizes are numbers that are no size.
func noSizes() []int {
	return []int{math.MinInt, math.MinInt + 1, -api.MaxSize, -5, -1, 0, api.MaxSize + 1, api.MaxSize + 2, 1 << 41, 1 << 62, math.MaxInt - 1, math.MaxInt}
}

// noLeaves are numbers that are no leaf's of a tree.
func noLeaves(n int) []int {
	return []int{math.MinInt, math.MinInt + 1, -api.MaxSize, -2, -1, n, n + 1, 2 * n, 1 << 62, math.MaxInt - 1, math.MaxInt}
}

// long is a text of so many bytes.
func long(n int) string { return strings.Repeat("h", n) }
