package single_test

import (
	"math/rand"
	"slices"
	"strconv"
	"testing"

	"scrivener/api"
	"scrivener/device"
	"scrivener/digest"
	"scrivener/recursion"
	"scrivener/shape"
	"scrivener/single"
	"scrivener/store"
	"scrivener/tile"
	"scrivener/verify"
)

// What follows: S3, and with it P1 and P2 as far as they speak of one path and one proof.

// asRecursion holds what is told of the first leaves to what layer 3 says of these, and layer 4 takes.
func asRecursion(t *testing.T, x *tile.Tree, first []string, place int) {
	t.Helper()
	n := len(first)
	root, _ := recursion.Root(first)
	path, e := single.Inclusion(x, n, place)
	if want, _ := recursion.Path(first, place); !slices.Equal(path, want) || e != api.OK {
		t.Errorf("S3, P1: Inclusion(%d, %d): %d: not the path of layer 3", n, place, e)
	}
	if e := verify.Inclusion(n, place, first[place], path, root); e != api.OK {
		t.Errorf("S3, P2: Inclusion(%d, %d): layer 4 refuses it: %d", n, place, e)
	}
	proof, e := single.Consistency(x, place+1, n)
	if want, _ := recursion.Proof(first, place+1); !slices.Equal(proof, want) || e != api.OK {
		t.Errorf("S3, P1: Consistency(%d, %d): %d: not the proof of layer 3", place+1, n, e)
	}
	old, _ := recursion.Root(first[:place+1])
	if e := verify.Consistency(place+1, n, old, root, proof); e != api.OK {
		t.Errorf("S3, P2: Consistency(%d, %d): layer 4 refuses it: %d", place+1, n, e)
	}
}

func TestAsRecursion(t *testing.T) {
	l := some(70, "leaf")
	for height := 1; height <= 8; height++ {
		x := grown(t, height, l)
		for n := 1; n <= len(l); n++ {
			for place := range n {
				asRecursion(t, x, l[:n], place)
			}
		}
	}
}

func TestAsRecursionOfGreatLists(t *testing.T) {
	r := rand.New(rand.NewSource(2))
	l := some(api.MaxList, "leaf")
	x := grown(t, 5, append(slices.Clone(l), some(1000, "behind")...))
	for _, n := range []int{255, 256, 257, 1000, 2048, 2049, 3000, 4095, 4096} {
		for _, place := range []int{0, 1, n / 2, half(n) - 1, half(n), n - 2, n - 1, r.Intn(n), r.Intn(n)} {
			asRecursion(t, x, l[:n], place)
		}
		if testing.Short() && n > 256 {
			break
		}
	}
}

// Of a tree that layer 3 can't list, layer 4 takes what is told, too, and as many hashes as it counts.
func TestFullTreeIsAccepted(t *testing.T) {
	if testing.Short() {
		t.Skip("it has 1048576 leaves")
	}
	r := rand.New(rand.NewSource(3))
	x := full().tree
	leaves, _ := x.Leaves(api.Span{End: api.MaxLeaves})
	for i := range 300 {
		n := api.MaxLeaves - i%3
		if i > 30 {
			n = 1 + r.Intn(api.MaxLeaves)
		}
		index := r.Intn(n)
		root, _ := x.Root(n)
		path, _ := single.Inclusion(x, n, index)
		if e := verify.Inclusion(n, index, leaves[index], path, root); e != api.OK {
			t.Errorf("S3, P2: Inclusion(%d, %d): %d", n, index, e)
		}
		old, _ := x.Root(index + 1)
		proof, _ := single.Consistency(x, index+1, n)
		if e := verify.Consistency(index+1, n, old, root, proof); e != api.OK {
			t.Errorf("S3, P2: Consistency(%d, %d): %d", index+1, n, e)
		}
	}
}

// said is all that is told of the first n leaves.
type said struct{ paths, proofs [][]string }

func say(t *testing.T, x *tile.Tree, n int) said {
	t.Helper()
	var all said
	for size := 1; size <= n; size++ {
		for place := range size {
			path, e := single.Inclusion(x, size, place)
			proof, f := single.Consistency(x, place+1, size)
			if e != api.OK || f != api.OK {
				t.Fatalf("S3: of %d leaves: %d of %d: %d, %d", x.Size(), place, size, e, f)
			}
			all.paths, all.proofs = append(all.paths, path), append(all.proofs, proof)
		}
	}
	return all
}

func sameSaid(a, b said) bool {
	return slices.EqualFunc(a.paths, b.paths, slices.Equal) && slices.EqualFunc(a.proofs, b.proofs, slices.Equal)
}

// What comes behind the first leaves, and the height of the tiles, changes nothing.
func TestFirstLeavesAlone(t *testing.T) {
	l := some(33, "leaf")
	for _, n := range []int{1, 2, 3, 4, 7, 8, 16, 21, 32, 33} {
		want := say(t, grown(t, 1, l[:n]), n)
		for height := 1; height <= 8; height++ {
			x := grown(t, height, l[:n])
			for behind, more := range []int{0, 1, 1, 5, 31, 64} {
				adds(t, x, some(more, "behind "+strconv.Itoa(behind)))
				if !sameSaid(say(t, x, n), want) {
					t.Errorf("S3: height %d: of %d leaves another thing is told, now that there are %d", height, n, x.Size())
				}
			}
		}
	}
}

// What was refused as too far ahead is told when the tree has come there.
func TestRefusedUntilItIsThere(t *testing.T) {
	l := some(20, "leaf")
	x := grown(t, 2, nil)
	for n := 1; n <= len(l); n++ {
		path, e := single.Inclusion(x, n, n-1)
		refused(t, "S1", path, e, api.ErrSingleSize)
		proof, e := single.Consistency(x, n, n)
		refused(t, "S2", proof, e, api.ErrSingleSize)
		adds(t, x, l[n-1:n])
		asRecursion(t, x, l[:n], n-1)
	}
}

// Each hash counts: with another one in its place a path or a proof does not lead to the root.
func TestEachHashCounts(t *testing.T) {
	l := some(21, "leaf")
	x := grown(t, 2, l)
	root, _ := recursion.Root(l)
	for place := range l {
		path, _ := single.Inclusion(x, len(l), place)
		old, _ := recursion.Root(l[:place+1])
		proof, _ := single.Consistency(x, place+1, len(l))
		for i := range path {
			path[i] = hashOf(path[i])
			if e := verify.Inclusion(len(l), place, l[place], path, root); e != api.ErrProofRoot {
				t.Errorf("P2: the path of %d with another hash %d: %d", place, i, e)
			}
			path, _ = single.Inclusion(x, len(l), place)
		}
		for i := range proof {
			proof[i] = hashOf(proof[i])
			if e := verify.Consistency(place+1, len(l), old, root, proof); e != api.ErrProofRoot {
				t.Errorf("P2: the proof from %d with another hash %d: %d", place+1, i, e)
			}
			proof, _ = single.Consistency(x, place+1, len(l))
		}
	}
}

// Layer 8 folds the hashes, with the leaf, to the root.
func TestFolded(t *testing.T) {
	l := some(45, "leaf")
	x := grown(t, 3, l)
	for n := 1; n <= len(l); n++ {
		root, _ := x.Root(n)
		for place := range n {
			spans, _ := shape.Path(n, place)
			path, _ := single.Inclusion(x, n, place)
			known := append(spans, api.Span{Begin: place, End: place + 1})
			if hash, e := shape.Fold(n, known, append(path, l[place]), api.Span{End: n}); hash != root || e != api.OK {
				t.Errorf("S3: the path of %d of %d folds to another root: %d", place, n, e)
			}
		}
	}
}

// The trees of a log on a device: one that grows, and that of the log when it is opened again.
func TestTreesOfAStore(t *testing.T) {
	disk, _ := device.New(64)
	if e := store.Format(disk); e != api.OK {
		t.Fatalf("layer 10: Format: %d", e)
	}
	log, e := store.Open(disk)
	if e != api.OK {
		t.Fatalf("layer 10: Open: %d", e)
	}
	var l []string
	for i := range 30 {
		batch := []string{"entry " + strconv.Itoa(i), ""}[:1+i%2]
		if _, e := log.Append(batch); e != api.OK {
			t.Fatalf("layer 10: Append: %d", e)
		}
		for _, entry := range batch {
			l = append(l, digest.Leaf(entry))
		}
		again, _ := store.Open(disk)
		for _, x := range []*tile.Tree{log.Tree(), again.Tree()} {
			for place := range l {
				asRecursion(t, x, l, place)
			}
		}
	}
}
