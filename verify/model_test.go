package verify_test

import (
	"crypto/sha256"
	"math/rand"
	"strconv"

	"scrivener/api"
)

// The model goes down instead of up: it takes trees apart at the greatest power of two below their size, as the definitions of chapter 3 do, and the hashes off the back of a list.

// some are n hashes, unlike those of another kind.
func some(n int, kind string) []string {
	var l []string
	for i := range n {
		l = append(l, hashOf(kind+" "+strconv.Itoa(i)))
	}
	return l
}

func hashOf(text string) string {
	h := sha256.Sum256([]byte(text))
	return string(h[:])
}

func node(left, right string) string { return hashOf("\x01" + left + right) }

func half(n int) int {
	k := 1
	for 2*k < n {
		k *= 2
	}
	return k
}

func parted(l []string) (rest []string, last string) {
	return l[:len(l)-1], l[len(l)-1]
}

func slowPathLen(n, m int) int {
	switch k := half(n); {
	case n == 1:
		return 0
	case m < k:
		return slowPathLen(k, m) + 1
	default:
		return slowPathLen(n-k, m-k) + 1
	}
}

func slowRootOf(n, m int, leaf string, path []string) string {
	if n == 1 {
		return leaf
	}
	k := half(n)
	rest, last := parted(path)
	if m < k {
		return node(slowRootOf(k, m, leaf, rest), last)
	}
	return node(last, slowRootOf(n-k, m-k, leaf, rest))
}

func slowProofLen(m, n int, whole bool) int {
	switch k := half(n); {
	case m == n && whole:
		return 0
	case m == n:
		return 1
	case m <= k:
		return slowProofLen(m, k, whole) + 1
	default:
		return slowProofLen(m-k, n-k, false) + 1
	}
}

func slowRootsOf(m, n int, whole bool, old string, proof []string) (a, b string) {
	if m == n && whole {
		return old, old
	}
	rest, last := parted(proof)
	if m == n {
		return last, last
	}
	k := half(n)
	if m <= k {
		a, b = slowRootsOf(m, k, whole, old, rest)
		return a, node(b, last)
	}
	a, b = slowRootsOf(m-k, n-k, false, old, rest)
	return node(last, a), node(last, b)
}

// pair are two numbers: a size and an index below it, or a first size and a second one.
type pair struct{ a, b int }

// greatSizes are sizes about the powers of two up to the bound, and some others.
func greatSizes(r *rand.Rand) []int {
	var sizes []int
	for i := 5; i <= 40; i++ {
		sizes = append(sizes, 1<<i-1, 1<<i)
		if i < 40 {
			sizes = append(sizes, 1<<i+1, 1<<i+1<<(i/2), 1<<i+r.Intn(1<<i))
		}
	}
	return append(sizes, api.MaxSize-2, 1<<39+1<<20)
}

// places are sizes, each with an index: all of the small ones; edges of the great ones.
func places(r *rand.Rand) []pair {
	var all []pair
	for n := 1; n <= 130; n++ {
		for m := range n {
			all = append(all, pair{n, m})
		}
	}
	for _, n := range greatSizes(r) {
		for _, m := range []int{0, 1, 2, n / 2, n/2 - 1, half(n) - 1, half(n), n - 3, n - 2, n - 1, r.Intn(n)} {
			if m < n {
				all = append(all, pair{n, m})
			}
		}
	}
	return all
}

// sizes are pairs of sizes, the first not above the second.
func sizes(r *rand.Rand) []pair {
	var all []pair
	for _, p := range places(r) {
		all = append(all, pair{p.b + 1, p.a})
	}
	return all
}
