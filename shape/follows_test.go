package shape_test

import (
	"math/bits"
	"math/rand"
	"slices"
	"testing"

	"scrivener/api"
	"scrivener/frontier"
	"scrivener/recursion"
	"scrivener/shape"
	"scrivener/tile"
	"scrivener/verify"
)

// What follows: H6, and that hashes of the told subtrees are what layers 3 to 5 say.

// grown is a tree of tiles with some leaves.
func grown(t *testing.T, l []string) *tile.Tree {
	t.Helper()
	x, _ := tile.New(8)
	for _, leaf := range l {
		if e := x.Add(leaf); e != api.OK {
			t.Fatal(e)
		}
	}
	return x
}

func hashesOf(t *testing.T, x *tile.Tree, spans []api.Span) []string {
	t.Helper()
	var l []string
	for _, s := range spans {
		hash, e := x.Part(s)
		if e != api.OK {
			t.Fatalf("T4: Part(%v): %d", s, e)
		}
		l = append(l, hash)
	}
	return l
}

// asRecursion holds told spans to hashes that layer 3 tells.
func asRecursion(t *testing.T, what string, x *tile.Tree, l told, want []string, e api.Errno) {
	t.Helper()
	if l.e != api.OK || e != api.OK || !slices.Equal(hashesOf(t, x, l.spans), want) {
		t.Errorf("H6: %s: %v, %d: not the hashes of layer 3 (%d)", what, l.spans, l.e, e)
	}
}

// followsOf are the paths, the proofs and a batch of a tree of n leaves, at some places.
func followsOf(t *testing.T, x *tile.Tree, l []string, places []int) {
	t.Helper()
	n := len(l)
	root, _ := recursion.Root(l)
	for _, m := range places {
		path := pathOf(n, m)
		want, e := recursion.Path(l, m)
		asRecursion(t, "Path", x, path, want, e)
		if e := verify.Inclusion(n, m, l[m], want, root); e != api.OK {
			t.Errorf("P2: the path of %d of %d: %d", m, n, e)
		}
		hash, e := shape.Fold(n, append(path.spans, at(m, m+1)), append(want, l[m]), at(0, n))
		if hash != root || e != api.OK {
			t.Errorf("H6: the path of %d of %d folds to another root: %d", m, n, e)
		}
		want, e = recursion.Proof(l, m+1)
		asRecursion(t, "Proof", x, proofOf(m+1, n), want, e)
	}
	if len(places) <= api.MaxIndices {
		want, e := recursion.Many(l, places)
		asRecursion(t, "Batch", x, batchOf(n, places...), want, e)
	}
}

func TestAsRecursion(t *testing.T) {
	l := some(4096, "leaf")
	x := grown(t, l)
	for n := 1; n <= 70; n++ {
		followsOf(t, x, l[:n], upTo(n))
	}
	great := []int{255, 256, 257, 1000, 2049, 4095, 4096}
	if testing.Short() {
		great = great[:3]
	}
	for _, n := range great {
		places := []int{0, 1, n / 3, n / 2, half(n) - 1, n - 2, n - 1}
		slices.Sort(places)
		followsOf(t, x, l[:n], slices.Compact(places))
	}
}

func TestBatchAsRecursion(t *testing.T) {
	r := rand.New(rand.NewSource(11))
	l := some(4096, "leaf")
	x := grown(t, l)
	for range 200 {
		n := 1 + r.Intn(len(l))
		in := someOf(r, n, min(n, 1+r.Intn(256)))
		want, e := recursion.Many(l[:n], in)
		asRecursion(t, "Batch", x, batchOf(n, in...), want, e)
	}
}

func TestLengths(t *testing.T) {
	r := rand.New(rand.NewSource(12))
	sizes := append(upTo(131)[1:], greatSizes(r)...)
	for _, n := range sizes {
		places := upTo(min(n, 130))
		if n > 130 {
			places = edges(r, n)
		}
		for _, m := range places {
			if k, e := verify.PathLen(n, m); len(pathOf(n, m).spans) != k || e != api.OK {
				t.Errorf("H6: Path(%d, %d) has not %d spans", n, m, k)
			}
			if k, e := verify.ProofLen(m+1, n); len(proofOf(m+1, n).spans) != k || e != api.OK {
				t.Errorf("H6: Proof(%d, %d) has not %d spans", m+1, n, k)
			}
		}
	}
}

// joined tells whether spans that stand in any order are all leaves of a tree, each once.
func joined(n int, spans []api.Span) bool {
	l := slices.Clone(spans)
	slices.SortFunc(l, func(a, b api.Span) int { return a.Begin - b.Begin })
	end := 0
	for _, s := range l {
		if s.Begin != end || s.End <= s.Begin {
			return false
		}
		end = s.End
	}
	return end == n
}

// isProofOfMany holds what is told beside wanted spans to H6.
func isProofOfMany(t *testing.T, what string, n int, l told, wanted []api.Span) {
	t.Helper()
	if l.e != api.OK || !slices.IsSortedFunc(l.spans, func(a, b api.Span) int { return a.Begin - b.Begin }) {
		t.Errorf("H4: %s of %d: not from the left: %v, %d", what, n, l.spans, l.e)
	}
	if !joined(n, append(slices.Clone(l.spans), wanted...)) {
		t.Errorf("H6, P5: %s of %d: with the wanted leaves not all of the tree, each once", what, n)
	}
	for _, s := range l.spans {
		if !shape.Inside(n, s) {
			t.Errorf("H4: %s of %d: %v is no subtree", what, n, s)
		}
	}
}

func TestBatchAndLeavesAreTheTree(t *testing.T) {
	r := rand.New(rand.NewSource(13))
	sizes := append(upTo(80)[1:], greatSizes(r)...)
	for _, n := range sizes {
		for _, k := range []int{1, 2, 7, 40, 256} {
			k = min(k, n)
			in := someOf(r, n, k)
			k = len(in)
			l := batchOf(n, in...)
			var leaves []api.Span
			for _, m := range in {
				leaves = append(leaves, at(m, m+1))
			}
			isProofOfMany(t, "Batch", n, l, leaves)
			if longest := bits.Len(uint(n - 1)); len(l.spans) > n-k || len(l.spans) > k*longest {
				t.Errorf("H6: Batch of %d leaves of %d has %d spans", k, n, len(l.spans))
			}
			known := append(slices.Clone(l.spans), leaves...)
			if len(known) <= api.MaxList && !isFold(t, n, known, some(len(known), "known"), at(0, n)) {
				t.Errorf("H6: a tree of %d can't be folded of a batch", n)
			}
		}
	}
}

// subtreesIn are the greatest subtrees of a tree that are all within a span.
func subtreesIn(n int, x api.Span) []api.Span {
	return slowMany(at(0, n), func(s api.Span) bool { return s.Begin < x.Begin || s.End > x.End }, func(s api.Span) bool {
		return s.End <= x.Begin || s.Begin >= x.End
	})
}

func TestRunAndLeavesAreTheTree(t *testing.T) {
	r := rand.New(rand.NewSource(14))
	sizes := append(upTo(40)[1:], greatSizes(r)...)
	for _, n := range sizes {
		for range 40 {
			b := r.Intn(n)
			x := at(b, b+1+r.Intn(n-b))
			l := runOf(n, x.Begin, x.End)
			wanted := subtreesIn(n, x)
			isProofOfMany(t, "Run", n, l, wanted)
			known := append(slices.Clone(l.spans), wanted...)
			if !isFold(t, n, known, some(len(known), "known"), at(0, n)) {
				t.Errorf("H6: a tree of %d can't be folded of a run", n)
			}
		}
	}
}

// A batch of neighbours is a run.
func TestRunIsABatch(t *testing.T) {
	r := rand.New(rand.NewSource(15))
	for _, n := range greatSizes(r) {
		for _, b := range edges(r, n) {
			k := 1 + r.Intn(min(n-b, api.MaxIndices))
			in := upTo(k)
			for i := range in {
				in[i] += b
			}
			runOf(n, b, b+k).is(t, "H4", batchOf(n, in...).spans...)
		}
	}
}

// A batch of one leaf is its path, in the order of the places.
func TestPathIsABatch(t *testing.T) {
	r := rand.New(rand.NewSource(16))
	for _, n := range greatSizes(r) {
		for _, m := range edges(r, n) {
			path := pathOf(n, m).spans
			slices.SortFunc(path, func(a, b api.Span) int { return a.Begin - b.Begin })
			batchOf(n, m).is(t, "H4", path...)
		}
	}
}

// The cover's subtrees are those whose hashes layer 5 tells of a range.
func TestCoverAsFrontier(t *testing.T) {
	l := some(64, "leaf")
	x := grown(t, l)
	for b := range 65 {
		for e := b; e <= 64; e++ {
			all, _ := frontier.Compact(b, l[b:e])
			nodes, errno := shape.Cover(at(b, e))
			var hashes []string
			for _, n := range nodes {
				hash, _ := x.Hash(n)
				hashes = append(hashes, hash)
			}
			if errno != api.OK || !slices.Equal(hashes, all.Hashes) {
				t.Errorf("H1: Cover([%d, %d)): %v, %d: not the cut of layer 5", b, e, nodes, errno)
			}
		}
	}
}
