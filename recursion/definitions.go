package recursion

import "scrivener/digest"

// The definitions of chapter 3, as they stand there, of lists that were checked ahead.

// cut are the first k and the others. Neither has spare room, so that nothing appended to the one can get into the other, or into a list that was handed in.
func cut[E any](l []E, k int) (left, right []E) {
	return l[:k:k], l[k:len(l):len(l)]
}

// root is R(l).
func root(l []string) string {
	var r func(d []string) string
	r = func(d []string) string {
		switch len(d) {
		case 0:
			return digest.Empty()
		case 1:
			return d[0]
		}
		left, right := cut(d, Split(len(d)))
		// No error can come: both are hashes, for the leaves were checked.
		hash, _ := digest.Node(r(left), r(right))
		return hash
	}
	return r(l)
}

// path is P(index, l).
func path(l []string, index int) []string {
	var p func(m int, d []string) []string
	p = func(m int, d []string) []string {
		if len(d) == 1 {
			return nil
		}
		k := Split(len(d))
		left, right := cut(d, k)
		if m < k {
			return append(p(m, left), root(right))
		}
		return append(p(m-k, right), root(left))
	}
	return p(index, l)
}

// proof is S(first, l, true).
func proof(l []string, first int) []string {
	var s func(m int, d []string, whole bool) []string
	s = func(m int, d []string, whole bool) []string {
		if m == len(d) && whole {
			return nil
		}
		if m == len(d) {
			return []string{root(d)}
		}
		k := Split(len(d))
		left, right := cut(d, k)
		if m <= k {
			return append(s(m, left, whole), root(right))
		}
		return append(s(m-k, right, false), root(left))
	}
	return s(first, l, true)
}

// many is M(indices, l).
func many(l []string, indices []int) []string {
	// The indices stay as they are in l; begin is where d stands there.
	var m func(in []int, d []string, begin int) []string
	m = func(in []int, d []string, begin int) []string {
		if len(in) == 0 {
			return []string{root(d)}
		}
		if len(d) == 1 {
			return nil
		}
		k := Split(len(d))
		left, right := cut(d, k)
		inLeft, inRight := cut(in, below(in, begin+k))
		return append(m(inLeft, left, begin), m(inRight, right, begin+k)...)
	}
	return m(indices, l, 0)
}

// below counts the indices below a place; they rise.
func below(indices []int, place int) int {
	n := 0
	for n < len(indices) && indices[n] < place {
		n++
	}
	return n
}
