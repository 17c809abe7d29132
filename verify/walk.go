package verify

import "scrivener/digest"

// The walks of chapter 4, with numbers and hashes that were checked ahead.

// way is where a walk stands: a place of a level, and the last place there.
type way struct {
	place, last int
}

func pathWay(size, index int) way { return way{index, size - 1} }

// proofWay begins where the first leaves end: with the greatest complete subtree that ends there.
func proofWay(first, second int) way {
	w := way{first - 1, second - 1}
	for w.place%2 == 1 {
		w = w.halved()
	}
	return w
}

func (w way) halved() way { return way{w.place / 2, w.last / 2} }

// fromLeft tells whether the next hash stands left of what is gone up.
func (w way) fromLeft() bool { return w.place%2 == 1 || w.place == w.last }

// above is where the walk stands behind the next hash.
func (w way) above() way {
	if w.place == w.last {
		// Nothing stands beside the last place of a level if it is even: what stands there goes up as it is.
		for w.place%2 == 0 && w.place != 0 {
			w = w.halved()
		}
	}
	return w.halved()
}

// steps counts the hashes that are taken from here on.
func (w way) steps() int {
	n := 0
	for w.last != 0 {
		w = w.above()
		n++
	}
	return n
}

func proofLen(first, second int) int {
	if first == second {
		return 0
	}
	w := proofWay(first, second)
	if w.place == 0 {
		return w.steps()
	}
	return 1 + w.steps()
}

// goUpPath is what a path leads to.
func goUpPath(w way, leaf string, path []string) string {
	r, rest := leaf, copied(path)
up:
	for {
		switch {
		case w.last == 0:
			break up
		case w.fromLeft():
			r = node(rest[0], r)
		default:
			r = node(r, rest[0])
		}
		w, rest = w.above(), rest[1:]
	}
	return r
}

// goUpProof is what a proof leads to: a is made of the first leaves alone, b of all.
func goUpProof(w way, old string, proof []string) (a, b string) {
	rest := copied(proof)
	a = old
	if w.place != 0 {
		a, rest = rest[0], rest[1:]
	}
	b = a
up:
	for {
		switch {
		case w.last == 0:
			break up
		case w.fromLeft():
			a, b = node(rest[0], a), node(rest[0], b)
		default:
			b = node(b, rest[0])
		}
		w, rest = w.above(), rest[1:]
	}
	return a, b
}

// copied is a list of one's own, from which the hashes are taken.
func copied(l []string) []string {
	c := make([]string, len(l))
	copy(c, l)
	return c
}

// node is that of two hashes; no error can come, for both have 32 bytes.
func node(left, right string) string {
	hash, _ := digest.Node(left, right)
	return hash
}
