package batch_test

import (
	"math/bits"
	"math/rand"
	"slices"
	"strconv"
	"testing"

	"scrivener/api"
	"scrivener/batch"
	"scrivener/device"
	"scrivener/digest"
	"scrivener/recursion"
	"scrivener/shape"
	"scrivener/single"
	"scrivener/store"
	"scrivener/tile"
	"scrivener/verify"
)

// What follows: B5, and with it P1, P2 and P5 as far as they speak of many leaves.

// of are the leaves at some places.
func of(l []string, indices []int) []string { return modelOf(l).leaves(indices) }

// asRecursion holds what is told of the first leaves of a tree to what layer 3 says of these, and layers 4 and 11.
func asRecursion(t *testing.T, x *tile.Tree, first []string, indices []int) {
	t.Helper()
	n, leaves := len(first), of(first, indices)
	b, e := batch.Prove(x, n, indices)
	if want, _ := recursion.Many(first, indices); !slices.Equal(b.Hashes, want) || e != api.OK {
		t.Errorf("B5, P1: Prove(%d, %v): %d: not what Many of layer 3 says", n, indices, e)
	}
	root, e := batch.Root(b, leaves)
	was, _ := x.Root(n)
	if want, _ := recursion.Root(first); root != want || root != was || e != api.OK {
		t.Errorf("B5: Root(%d, %v): %d: not the tree's", n, indices, e)
	}
	if e := batch.Check(b, leaves, was); e != api.OK {
		t.Errorf("B5, P2: Check(%d, %v): %d", n, indices, e)
	}
	paths, e := batch.Expand(b, leaves)
	if len(paths) != len(indices) || e != api.OK {
		t.Fatalf("B5: Expand(%d, %v): %d paths, %d", n, indices, len(paths), e)
	}
	for i, index := range indices {
		if want, _ := recursion.Path(first, index); !slices.Equal(paths[i], want) {
			t.Errorf("B5, P1: Expand(%d, %v): not the path of %d of layer 3", n, indices, index)
		}
		if want, _ := single.Inclusion(x, n, index); !slices.Equal(paths[i], want) {
			t.Errorf("B5: Expand(%d, %v): not the path of %d of layer 11", n, indices, index)
		}
	}
}

func TestAsRecursion(t *testing.T) {
	r := rand.New(rand.NewSource(11))
	l := some(80, "leaf")
	for height := 1; height <= 8; height++ {
		x := grown(t, height, l)
		for n := 1; n <= 70; n++ {
			for _, k := range []int{1, 2, 3, n/2 + 1, n} {
				asRecursion(t, x, l[:n], someOf(r, n, k))
			}
		}
	}
}

func TestAsRecursionOfGreatLists(t *testing.T) {
	r := rand.New(rand.NewSource(12))
	l := some(api.MaxList, "leaf")
	x := grown(t, 5, append(slices.Clone(l), some(1000, "behind")...))
	for _, n := range []int{255, 256, 257, 1000, 2048, 2049, 4095, 4096} {
		for _, k := range []int{1, 2, 10} {
			asRecursion(t, x, l[:n], someOf(r, n, k))
		}
		if testing.Short() && n > 256 {
			break
		}
	}
	for _, n := range []int{256, 4096} {
		indices := upTo(256)
		if n > 256 {
			indices = apart(n)
		}
		b, e := batch.Prove(x, n, indices)
		if want, _ := recursion.Many(l[:n], indices); !slices.Equal(b.Hashes, want) || e != api.OK {
			t.Errorf("B5: Prove(%d) of 256 indices: %d: not what Many of layer 3 says", n, e)
		}
	}
}

// isAccepted holds a batch that is right, with any leaves, to layer 4: each path leads to the root, and a root is taken just if it is taken for each of them.
func isAccepted(t *testing.T, b api.Batch, leaves, roots []string) {
	t.Helper()
	root, e := batch.Root(b, leaves)
	paths, f := batch.Expand(b, leaves)
	if e != api.OK || f != api.OK || len(paths) != len(leaves) {
		t.Fatalf("B5: Size %d, Indices %v: %d, %d", b.Size, b.Indices, e, f)
	}
	for i, index := range b.Indices {
		if is, e := verify.RootOf(b.Size, index, leaves[i], paths[i]); is != root || e != api.OK {
			t.Errorf("B5, P2: Size %d, Indices %v: the path of %d leads to another root: %d", b.Size, b.Indices, index, e)
		}
	}
	for _, other := range append(roots, root) {
		each := true
		for i, index := range b.Indices {
			each = each && verify.Inclusion(b.Size, index, leaves[i], paths[i], other) == api.OK
		}
		if e := batch.Check(b, leaves, other); (e == api.OK) != each || e != api.OK && e != api.ErrBatchRoot {
			t.Errorf("B5, P2: Size %d, Indices %v: Check: %d, but layer 4 takes each: %t", b.Size, b.Indices, e, each)
		}
	}
}

func TestAnyRightBatch(t *testing.T) {
	r := rand.New(rand.NewSource(13))
	roots := []string{hashOf("another root"), "", "x"}
	for n := 1; n <= 8; n++ {
		for i, indices := range sets(n) {
			count, _ := batch.Count(n, indices)
			isAccepted(t, api.Batch{Size: n, Indices: indices, Hashes: some(count, strconv.Itoa(i))}, some(len(indices), "leaf"), roots)
		}
	}
	for i, n := range greatSizes(r) {
		for _, k := range []int{1, 2, 9, 64} {
			indices := someOf(r, n, k)
			count, _ := batch.Count(n, indices)
			isAccepted(t, api.Batch{Size: n, Indices: indices, Hashes: some(count, strconv.Itoa(i))}, some(len(indices), "leaf"), roots)
		}
		if testing.Short() && n > 5000 {
			break
		}
	}
}

// Each hash and each leaf counts, and its place: with another one there, or two changed about, a batch does not lead to the root.
func TestEachHashCounts(t *testing.T) {
	l := some(9, "leaf")
	x := grown(t, 2, l)
	for n := 1; n <= len(l); n++ {
		root, _ := recursion.Root(l[:n])
		for _, indices := range sets(n) {
			b, e := batch.Prove(x, n, indices)
			if len(b.Indices) != len(indices) || e != api.OK {
				t.Fatalf("B2: Prove(%d, %v): %d", n, indices, e)
			}
			leaves := of(l, indices)
			for _, list := range [][]string{b.Hashes, leaves} {
				for i := range list {
					kept := list[i]
					list[i] = hashOf(kept)
					if e := batch.Check(b, leaves, root); e != api.ErrBatchRoot {
						t.Errorf("P2: Check(%d, %v) with another hash: %d", n, indices, e)
					}
					isAccepted(t, b, leaves, []string{root})
					list[i] = kept
				}
				if k := len(list) - 1; k > 0 {
					list[0], list[k] = list[k], list[0]
					if e := batch.Check(b, leaves, root); e != api.ErrBatchRoot {
						t.Errorf("P2: Check(%d, %v) with two changed about: %d", n, indices, e)
					}
					list[0], list[k] = list[k], list[0]
				}
			}
		}
	}
}

// Of another size or other places, a batch leads to another root, or is none.
func TestOtherPlaces(t *testing.T) {
	l := some(9, "leaf")
	x := grown(t, 2, l)
	for n := 1; n <= len(l); n++ {
		root, _ := recursion.Root(l[:n])
		for _, indices := range sets(n) {
			b, _ := batch.Prove(x, n, indices)
			leaves := of(l, indices)
			for size := 1; size <= len(l)+1; size++ {
				other := api.Batch{Size: size, Indices: b.Indices, Hashes: b.Hashes}
				count, e := slowCount(size, indices)
				if e != api.OK || count != len(b.Hashes) {
					isSaid(t, other, leaves)
					continue
				}
				isAccepted(t, other, leaves, []string{root})
			}
			for i := range indices {
				moved := slices.Clone(indices)
				moved[i]++
				isSaid(t, api.Batch{Size: n, Indices: moved, Hashes: b.Hashes}, leaves)
				if batch.Check(api.Batch{Size: n, Indices: moved, Hashes: b.Hashes}, leaves, root) == api.OK {
					t.Errorf("P2: Check(%d, %v) takes what was told of %v", n, moved, indices)
				}
			}
		}
	}
}

// isBounded holds how many hashes there are to B5.
func isBounded(t *testing.T, size int, indices []int) {
	t.Helper()
	n, e := batch.Count(size, indices)
	k := len(indices)
	if e != api.OK || n > size-k || n > k*bits.Len(uint(size-1)) {
		t.Errorf("B5: Count(%d) of %d indices: %d, %d", size, k, n, e)
	}
}

func TestBounds(t *testing.T) {
	r := rand.New(rand.NewSource(14))
	for n := 1; n <= 12; n++ {
		for _, indices := range sets(n) {
			isBounded(t, n, indices)
		}
	}
	for _, n := range greatSizes(r) {
		for _, k := range []int{1, 2, 3, 64, 255, 256} {
			isBounded(t, n, someOf(r, n, k))
		}
		isBounded(t, n, []int{0})
		isBounded(t, n, []int{n - 1})
		if n >= 256 {
			isBounded(t, n, apart(n))
		}
	}
}

// No node is told twice, and none that can be worked out: what is told and the leaves are spans without a leaf in common, that are the whole tree.
func TestNoNodeTwice(t *testing.T) {
	r := rand.New(rand.NewSource(15))
	l := some(300, "leaf")
	x := grown(t, 4, l)
	for range 400 {
		n := 1 + r.Intn(len(l))
		indices := someOf(r, n, 1+r.Intn(min(n, 256)))
		b, e := batch.Prove(x, n, indices)
		if e != api.OK {
			t.Fatalf("B2: Prove(%d, %v): %d", n, indices, e)
		}
		spans, _ := shape.Batch(n, indices)
		if len(spans) != len(b.Hashes) {
			t.Fatalf("B2: Prove(%d, %v): %d hashes, %d subtrees of layer 8", n, indices, len(b.Hashes), len(spans))
		}
		known, hashes := slices.Clone(spans), slices.Clone(b.Hashes)
		for _, i := range indices {
			known, hashes = append(known, at(i, i+1)), append(hashes, l[i])
		}
		root, _ := x.Root(n)
		if is, e := shape.Fold(n, known, hashes, at(0, n)); is != root || e != api.OK {
			t.Errorf("B5: Prove(%d, %v): layer 8 folds it to another root: %d", n, indices, e)
		}
		all := 0
		for _, s := range known {
			all += s.End - s.Begin
		}
		slices.Sort(hashes)
		if all != n || len(slices.Compact(hashes)) != len(known) {
			t.Errorf("P5: Prove(%d, %v): a node is told twice", n, indices)
		}
	}
}

// What comes behind the first leaves, and the height of the tiles, changes nothing.
func TestFirstLeavesAlone(t *testing.T) {
	r := rand.New(rand.NewSource(16))
	l := some(33, "leaf")
	for _, n := range []int{1, 2, 3, 4, 7, 8, 16, 21, 32, 33} {
		indices := someOf(r, n, 1+n/3)
		want, _ := batch.Prove(grown(t, 1, l[:n]), n, indices)
		for height := 1; height <= 8; height++ {
			x := grown(t, height, l[:n])
			for behind, more := range []int{0, 1, 1, 5, 31, 64} {
				adds(t, x, some(more, "behind "+strconv.Itoa(behind)))
				if b, e := batch.Prove(x, n, indices); !sameBatch(b, want) || e != api.OK {
					t.Errorf("B2: height %d: of %d leaves another thing is told, now that there are %d: %d", height, n, x.Size(), e)
				}
			}
		}
	}
}

// What was refused as too far ahead is told when the tree has come there.
func TestRefusedUntilItIsThere(t *testing.T) {
	l := some(20, "leaf")
	x := grown(t, 2, nil)
	for n := 1; n <= len(l); n++ {
		b, e := batch.Prove(x, n, []int{n - 1})
		refused(t, "B2: ahead of the tree", b, e, api.ErrBatchSize)
		adds(t, x, l[n-1:n])
		asRecursion(t, x, l[:n], []int{n - 1})
	}
}

// The trees of a log on a device: one that grows, and that of the log when it is opened again.
func TestTreesOfAStore(t *testing.T) {
	r := rand.New(rand.NewSource(17))
	disk, _ := device.New(64)
	if e := store.Format(disk); e != api.OK {
		t.Fatalf("layer 10: Format: %d", e)
	}
	log, e := store.Open(disk)
	if e != api.OK {
		t.Fatalf("layer 10: Open: %d", e)
	}
	var l []string
	for i := range 30 {
		entries := []string{"entry " + strconv.Itoa(i), ""}[:1+i%2]
		if _, e := log.Append(entries); e != api.OK {
			t.Fatalf("layer 10: Append: %d", e)
		}
		for _, entry := range entries {
			l = append(l, digest.Leaf(entry))
		}
		again, _ := store.Open(disk)
		for _, x := range []*tile.Tree{log.Tree(), again.Tree()} {
			for range 5 {
				n := 1 + r.Intn(len(l))
				asRecursion(t, x, l[:n], someOf(r, n, 1+r.Intn(n)))
			}
		}
	}
}

// Of a tree that layer 3 can't list, layer 4 takes what is told, too.
func TestFullTreeIsAccepted(t *testing.T) {
	if testing.Short() {
		t.Skip("it has 1048576 leaves")
	}
	r := rand.New(rand.NewSource(18))
	x, m := full().tree, full().model
	for i := range 60 {
		n := api.MaxLeaves - i%3
		if i > 20 {
			n = 1 + r.Intn(api.MaxLeaves)
		}
		indices := someOf(r, n, 1+r.Intn(256))
		b, e := batch.Prove(x, n, indices)
		root, _ := x.Root(n)
		leaves := m.leaves(indices)
		if is, f := batch.Root(b, leaves); is != root || e != api.OK || f != api.OK {
			t.Fatalf("B5: Prove(%d, %v): another root: %d, %d", n, indices, e, f)
		}
		isAccepted(t, b, leaves, []string{root, hashOf(root)})
	}
}
