package verify_test

import (
	"slices"
	"testing"

	"scrivener/api"
	"scrivener/recursion"
	"scrivener/verify"
)

// tree is a list of leaves with the roots of its beginnings.
type tree struct {
	leaves, roots []string
}

func newTree(t *testing.T, n int) tree {
	t.Helper()
	l := some(n, "leaf")
	var roots []string
	for i := range n + 1 {
		r, e := recursion.Root(l[:i])
		if e != api.OK {
			t.Fatalf("T3: Root of %d: %d", i, e)
		}
		roots = append(roots, r)
	}
	return tree{l, roots}
}

func (x tree) checkPath(t *testing.T, n, i int) []string {
	t.Helper()
	p, e := recursion.Path(x.leaves[:n], i)
	if e != api.OK {
		t.Fatalf("T4: Path of %d of %d: %d", i, n, e)
	}
	if k, _ := verify.PathLen(n, i); k != len(p) {
		t.Errorf("V4: the path of %d of %d has %d hashes, not %d", i, n, len(p), k)
	}
	if r, _ := verify.RootOf(n, i, x.leaves[i], p); r != x.roots[n] {
		t.Errorf("V4: the path of %d of %d leads to another root", i, n)
	}
	if e := verify.Inclusion(n, i, x.leaves[i], p, x.roots[n]); e != api.OK {
		t.Errorf("P2: the path of %d of %d: %d", i, n, e)
	}
	return p
}

func (x tree) checkProof(t *testing.T, m, n int) []string {
	t.Helper()
	p, e := recursion.Proof(x.leaves[:n], m)
	if e != api.OK {
		t.Fatalf("T4: Proof of %d of %d: %d", m, n, e)
	}
	if k, _ := verify.ProofLen(m, n); k != len(p) {
		t.Errorf("V4: the proof from %d to %d has %d hashes, not %d", m, n, len(p), k)
	}
	if a, b, _ := verify.RootsOf(m, n, x.roots[m], p); a != x.roots[m] || b != x.roots[n] {
		t.Errorf("V4: the proof from %d to %d leads to other roots", m, n)
	}
	if e := verify.Consistency(m, n, x.roots[m], x.roots[n], p); e != api.OK {
		t.Errorf("P2: the proof from %d to %d: %d", m, n, e)
	}
	return p
}

func TestAllOfSmallTrees(t *testing.T) {
	x := newTree(t, 70)
	for n := 1; n <= 70; n++ {
		for i := range n {
			x.checkPath(t, n, i)
			x.checkProof(t, i+1, n)
		}
	}
}

func TestGreatTrees(t *testing.T) {
	great := []int{511, 512, 513, 1000, 4095, 4096}
	if testing.Short() {
		great = great[:2]
	}
	x := tree{some(great[len(great)-1], "leaf"), make([]string, 4097)}
	for _, n := range great {
		wanted := []int{1, 2, 3, n / 3, n / 2, n/2 + 1, n - 2, n - 1, n}
		for _, m := range wanted {
			x.roots[m], _ = recursion.Root(x.leaves[:m])
		}
		for _, m := range wanted {
			x.checkPath(t, n, m-1)
			x.checkProof(t, m, n)
		}
	}
}

// What is accepted is the one thing: whatever is changed of it leads to another root.
func TestChangedPaths(t *testing.T) {
	x := newTree(t, 24)
	for n := 2; n <= 24; n++ {
		for i := range n {
			p := x.checkPath(t, n, i)
			refused := func(what string, leaf string, path []string, root string) {
				if e := verify.Inclusion(n, i, leaf, path, root); e != api.ErrProofRoot {
					t.Errorf("V2: the path of %d of %d, %s: %d", i, n, what, e)
				}
			}
			refused("another leaf", changed(x.leaves[i], 9), p, x.roots[n])
			refused("an older root", x.leaves[i], p, x.roots[n-1])
			for k := range p {
				q := slices.Clone(p)
				q[k] = changed(q[k], 31-k)
				refused("a hash changed", x.leaves[i], q, x.roots[n])
			}
			if len(p) > 1 {
				q := slices.Clone(p)
				slices.Reverse(q)
				refused("turned round", x.leaves[i], q, x.roots[n])
			}
			for j := range n {
				if e := verify.Inclusion(n, j, x.leaves[i], p, x.roots[n]); j != i && e == api.OK {
					t.Errorf("V2: the path of %d of %d is taken as that of %d", i, n, j)
				}
			}
		}
	}
}

func TestChangedProofs(t *testing.T) {
	x := newTree(t, 24)
	other := hashOf("other")
	for n := 2; n <= 24; n++ {
		for m := 1; m < n; m++ {
			p := x.checkProof(t, m, n)
			refused := func(what string, old, now string, proof []string) {
				if e := verify.Consistency(m, n, old, now, proof); e != api.ErrProofRoot {
					t.Errorf("V3: the proof from %d to %d, %s: %d", m, n, what, e)
				}
			}
			refused("another old root", other, x.roots[n], p)
			refused("another new root", x.roots[m], other, p)
			refused("the roots exchanged", x.roots[n], x.roots[m], p)
			for k := range p {
				q := slices.Clone(p)
				q[k] = changed(q[k], k)
				refused("a hash changed", x.roots[m], x.roots[n], q)
			}
			for k := 1; k <= n; k++ {
				if e := verify.Consistency(k, n, x.roots[m], x.roots[n], p); k != m && e == api.OK {
					t.Errorf("V3: the proof from %d to %d is taken as that from %d", m, n, k)
				}
			}
		}
	}
}

// The faces of a log that has two: the example 2 of the whole.
func TestTwoFaces(t *testing.T) {
	x := newTree(t, 5)
	face := slices.Clone(x.leaves)
	face[1] = hashOf("another entry")
	now, _ := recursion.Root(face)
	for _, l := range [][]string{x.leaves, face} {
		p, _ := recursion.Proof(l, 3)
		if e := verify.Consistency(3, 5, x.roots[3], now, p); e != api.ErrProofRoot {
			t.Errorf("P2: another face is taken: %d", e)
		}
	}
}
