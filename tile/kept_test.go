package tile

import (
	"crypto/sha256"
	"math/bits"
	"strconv"
	"testing"
)

// kept counts the hashes that a tree keeps, of each level.
func kept(t *Tree) map[int]int {
	count := map[int]int{}
	for p, row := range t.rows {
		count[p.level] += len(row)
	}
	return count
}

// One hash is kept for each complete subtree, and no others.
func TestKept(t *testing.T) {
	for height := 1; height <= 8; height++ {
		x, _ := New(height)
		for n := 1; n <= 1100; n++ {
			hash := sha256.Sum256([]byte(strconv.Itoa(n)))
			x.Add(string(hash[:]))
			x.Add("odd")
			if n > 300 && n%37 != 0 {
				continue
			}
			// What is asked for is worked out, and not kept.
			x.Root(n)
			x.Root(n - 1)
			for _, tree := range []*Tree{x, x.Clone()} {
				keptIsRight(t, tree, n)
			}
		}
	}
}

func keptIsRight(t *testing.T, x *Tree, n int) {
	t.Helper()
	count, sum := kept(x), 0
	for level, had := range count {
		if had != n>>level {
			t.Fatalf("T6: height %d: of %d leaves %d hashes of level %d are kept", x.height, n, had, level)
		}
		sum += had
	}
	if sum != 2*n-bits.OnesCount(uint(n)) || sum >= 2*n {
		t.Fatalf("T6: height %d: of %d leaves %d hashes are kept", x.height, n, sum)
	}
}
