package verify_test

import (
	"slices"
	"sync"
	"testing"

	"scrivener/verify"
)

// use makes every call that takes a list; what it answers is told as texts.
func use(size, index int, leaf string, path []string, first int, proof []string) []string {
	r, e := verify.RootOf(size, index, leaf, path)
	a, b, f := verify.RootsOf(first, size, leaf, proof)
	g := verify.Inclusion(size, index, leaf, path, r)
	h := verify.Consistency(first, size, leaf, b, proof)
	return []string{r, a, b, string(rune(e)), string(rune(f)), string(rune(g)), string(rune(h))}
}

func TestListsHandedIn(t *testing.T) {
	for n := 1; n <= 40; n++ {
		for i := range n {
			memory := some(12, "memory")
			was := slices.Clone(memory)
			// Right lists, and those that are too short by one or too long.
			for off := -1; off <= 1; off++ {
				k, m := max(0, slowPathLen(n, i)+off), max(0, slowProofLen(i+1, n, true)+off)
				use(n, i, hashOf("leaf"), memory[:k], i+1, memory[:m])
				if !slices.Equal(memory, was) {
					t.Fatalf("R2: lists of %d and %d hashes were written into", k, m)
				}
			}
		}
	}
}

func TestSameMemoryOtherHashes(t *testing.T) {
	leaf := hashOf("leaf")
	for n := 1; n <= 40; n++ {
		for i := range n {
			k, m := slowPathLen(n, i), slowProofLen(i+1, n, true)
			memory := some(12, "old")
			use(n, i, leaf, memory[:k], i+1, memory[:m])
			copy(memory, some(12, "fresh"))
			got := use(n, i, leaf, memory[:k], i+1, memory[:m])
			fresh := some(12, "fresh")
			a, b := slowRootsOf(i+1, n, true, leaf, fresh[:m])
			if want := slowRootOf(n, i, leaf, fresh[:k]); got[0] != want || got[1] != a || got[2] != b {
				t.Fatalf("R2: the answers for %d of %d hang on the hashes of an earlier call", i, n)
			}
		}
	}
}

func TestCallsAtOnce(t *testing.T) {
	hashes := some(12, "shared")
	want := use(33, 20, hashes[0], hashes[:6], 17, hashes[:7])
	var all sync.WaitGroup
	answers := make([][]string, 8)
	for i := range answers {
		all.Go(func() {
			for range 20 {
				answers[i] = use(33, 20, hashes[0], hashes[:6], 17, hashes[:7])
			}
		})
	}
	all.Wait()
	for _, a := range answers {
		if !slices.Equal(a, want) {
			t.Error("R2: calls at once disturb one another")
		}
	}
}
