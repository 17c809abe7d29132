package recursion_test

import (
	"slices"
	"testing"

	"scrivener/api"
	"scrivener/recursion"
)

// gone goes a path up from its leaf, by T5's words; ok tells whether its hashes are just used up.
func gone(leaf string, m, n int, path []string) (hash string, ok bool) {
	if n == 1 {
		return leaf, len(path) == 0
	}
	if len(path) == 0 {
		return "", false
	}
	rest, last := path[:len(path)-1], path[len(path)-1]
	k := 1
	for 2*k < n {
		k *= 2
	}
	if m < k {
		hash, ok = gone(leaf, m, k, rest)
		return node(hash, last), ok
	}
	hash, ok = gone(leaf, m-k, n-k, rest)
	return node(last, hash), ok
}

func TestPathsLeadToTheRoot(t *testing.T) {
	for n := 1; n <= 80; n++ {
		l := some(n, "up")
		want := slowRoot(l)
		for m := range n {
			p, e := recursion.Path(l, m)
			if e != api.OK {
				t.Fatalf("T4: Path of %d of %d: %d", m, n, e)
			}
			if r, ok := gone(l[m], m, n, p); r != want || !ok {
				t.Errorf("T5: the path of %d of %d does not lead to the root", m, n)
			}
			if len(p) > digitsOf(n-1) {
				t.Errorf("T5: the path of %d of %d has %d hashes", m, n, len(p))
			}
		}
	}
}

// bothRoots goes a proof from m to n up, as RFC 9162 tells it (2.1.4.2): what it leads to as the old root and as the new one.
func bothRoots(m, n int, old string, proof []string) (first, second string, ok bool) {
	if m&(m-1) == 0 {
		proof = append([]string{old}, proof...)
	}
	f, s := m-1, n-1
	for f&1 == 1 {
		f, s = f>>1, s>>1
	}
	if len(proof) == 0 {
		return "", "", false
	}
	first, second = proof[0], proof[0]
	for _, h := range proof[1:] {
		if s == 0 {
			return "", "", false
		}
		if f&1 == 1 || f == s {
			first, second = node(h, first), node(h, second)
			for f&1 == 0 && f != 0 {
				f, s = f>>1, s>>1
			}
		} else {
			second = node(second, h)
		}
		f, s = f>>1, s>>1
	}
	return first, second, s == 0
}

func TestProofsLeadToBothRoots(t *testing.T) {
	for n := 1; n <= 80; n++ {
		l := some(n, "both")
		for m := 1; m < n; m++ {
			p, _ := recursion.Proof(l, m)
			first, second, ok := bothRoots(m, n, slowRoot(l[:m]), p)
			if !ok || first != slowRoot(l[:m]) || second != slowRoot(l) {
				t.Errorf("P2: the proof from %d to %d does not lead to both roots", m, n)
			}
		}
		if p, e := recursion.Proof(l, n); len(p) != 0 || e != api.OK {
			t.Errorf("T5: the proof from %d to %d has %d hashes, %d", n, n, len(p), e)
		}
	}
}

func TestLengthsOfMany(t *testing.T) {
	for n := 1; n <= 11; n++ {
		l := some(n, "long")
		for set := 1; set < 1<<n; set++ {
			in := picked(set, n)
			if p, e := recursion.Many(l, in); e != api.OK || len(p) > n-len(in) {
				t.Errorf("T5: Many of %v of %d: %d hashes, %d", in, n, len(p), e)
			}
		}
	}
}

func TestManyOfOneIsItsPath(t *testing.T) {
	for _, n := range []int{1, 2, 3, 4, 5, 31, 32, 33, 63, 100} {
		l := some(n, "one")
		for m := range n {
			path, _ := recursion.Path(l, m)
			got, _ := recursion.Many(l, []int{m})
			if !slices.Equal(got, placed(path, m, n)) {
				t.Errorf("T5: Many of %d alone, of %d, has not the hashes of the path by their places", m, n)
			}
		}
	}
}

// placed are the hashes of a path from the left: a side stands left of all below it, or right of them.
func placed(path []string, m, n int) []string {
	var left []string // from the top
	var right []string
	begin, end := 0, n
	for i := len(path) - 1; i >= 0; i-- {
		k := 1
		for 2*k < end-begin {
			k *= 2
		}
		if m < begin+k {
			end = begin + k
			right = append(right, path[i])
		} else {
			begin += k
			left = append(left, path[i])
		}
	}
	slices.Reverse(right)
	return append(left, right...)
}
