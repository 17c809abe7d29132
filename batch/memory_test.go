package batch_test

import (
	"math/rand"
	"slices"
	"strconv"
	"testing"

	"scrivener/api"
	"scrivener/batch"
	"scrivener/tile"
)

// overwrite writes into a list and all its spare room.
func overwrite[E any](l []E, with E) {
	l = l[:cap(l)]
	for i := range l {
		l[i] = with
	}
}

// roomy is a copy of a list with spare room, which is filled.
func roomy[E any](l []E, with E) []E {
	c := slices.Concat(l, slices.Repeat([]E{with}, 5))
	return c[:len(l)]
}

// isRoomy tells whether such a list and its spare room are as they were.
func isRoomy[E comparable](l, was []E, with E) bool {
	all := l[:len(l)+5]
	return slices.Equal(l, was) && !slices.ContainsFunc(all[len(l):], func(e E) bool { return e != with })
}

// tilesOf are all that a tree keeps.
func tilesOf(x *tile.Tree) [][]string {
	all := [][]string{{strconv.Itoa(x.Size()), strconv.Itoa(x.Height())}}
	for level := range 8 {
		for index := 0; ; index++ {
			row, e := x.Tile(level, index)
			if e != api.OK {
				break
			}
			all = append(all, row)
		}
	}
	return all
}

// What is handed in is not written into, nor its spare room, whether it is refused or not.
func TestListsAreNotWritten(t *testing.T) {
	l := some(20, "leaf")
	x, m := grown(t, 2, l), modelOf(l)
	for _, was := range append(wrongFor(20), []int{0}, []int{3, 4, 19}, upTo(20)) {
		indices := roomy(was, -7)
		batch.Count(20, indices)
		batch.Prove(x, 20, indices)
		b, _ := m.prove(20, was)
		for _, hashes := range [][]string{b.Hashes, {l[0], "x"}} {
			for _, leaves := range [][]string{l[:min(20, len(was))], {"x"}} {
				told, given := roomy(hashes, "room"), roomy(leaves, "room")
				asked := api.Batch{Size: 20, Indices: indices, Hashes: told}
				batch.Root(asked, given)
				batch.Check(asked, given, l[0])
				batch.Expand(asked, given)
				if !isRoomy(told, hashes, "room") || !isRoomy(given, leaves, "room") {
					t.Errorf("R2: of %v hashes or leaves were written into", was)
				}
			}
		}
		if !isRoomy(indices, was, -7) {
			t.Errorf("R2: indices %v were written into: %v", was, indices)
		}
	}
}

// What came out is not what was handed in, nor what comes out of another call: writing into the one changes nothing of the other.
func TestListsAreNew(t *testing.T) {
	r := rand.New(rand.NewSource(21))
	l := some(70, "leaf")
	for height := 1; height <= 8; height++ {
		x, m := grown(t, height, l), modelOf(l)
		before := tilesOf(x)
		for n := 1; n <= len(l); n++ {
			was := someOf(r, n, 1+r.Intn(n))
			want, _ := m.prove(n, was)
			indices := slices.Clone(was)
			b, _ := batch.Prove(x, n, indices)
			again, _ := batch.Prove(x, n, indices)
			overwrite(indices, -1)
			overwrite(again.Indices, -1)
			overwrite(again.Hashes, "over")
			if !sameBatch(b, want) || !slices.Equal(b.Indices, was) {
				t.Fatalf("R2: Prove(%d, %v): a list is kept, or shared", n, was)
			}
			isProve(t, x, m, n, was)
		}
		if !slices.EqualFunc(tilesOf(x), before, slices.Equal) {
			t.Errorf("R2: height %d: writing into the lists has changed the tree", height)
		}
	}
}

// Within one answer, and between answers, no two paths share memory, nor with a batch and leaves.
func TestPathsAreNew(t *testing.T) {
	r := rand.New(rand.NewSource(22))
	l := some(70, "leaf")
	m := modelOf(l)
	for n := 1; n <= len(l); n++ {
		indices := someOf(r, n, 1+r.Intn(n))
		b, _ := m.prove(n, indices)
		leaves := m.leaves(indices)
		x, _ := saidBy(b, leaves)
		want := x.paths()
		told, given := slices.Clone(b.Hashes), slices.Clone(leaves)
		paths, _ := batch.Expand(b, leaves)
		other, _ := batch.Expand(b, leaves)
		for i := range other {
			overwrite(other[i], "over")
			for j := i + 1; j < len(other); j++ {
				if !slices.Equal(other[j], want[j]) {
					t.Fatalf("R2: Expand(%d, %v): the paths of %d and %d share memory", n, indices, indices[i], indices[j])
				}
			}
		}
		overwrite(other, nil)
		if !samePaths(paths, want) || !slices.Equal(b.Hashes, told) || !slices.Equal(leaves, given) {
			t.Fatalf("R2: Expand(%d, %v): a list is shared", n, indices)
		}
		// Nor is what was handed in kept.
		overwrite(b.Hashes, "over")
		overwrite(leaves, "over")
		if !samePaths(paths, want) {
			t.Fatalf("R2: Expand(%d, %v): what was handed in is in the paths", n, indices)
		}
	}
}

// A batch that came out stays as it is when the tree goes on.
func TestBatchesStay(t *testing.T) {
	r := rand.New(rand.NewSource(23))
	l := some(60, "leaf")
	x := grown(t, 1, nil)
	var all, copies []api.Batch
	for n, leaf := range l {
		adds(t, x, []string{leaf})
		b, _ := batch.Prove(x, n+1, someOf(r, n+1, 1+r.Intn(n+1)))
		all = append(all, b)
		copies = append(copies, api.Batch{Size: b.Size, Indices: slices.Clone(b.Indices), Hashes: slices.Clone(b.Hashes)})
	}
	if !slices.EqualFunc(all, copies, sameBatch) {
		t.Error("R2: a batch was written into when the tree went on")
	}
}

// Asking changes nothing of the tree, whether it is refused or not.
func TestTreeStays(t *testing.T) {
	l := some(37, "leaf")
	for height := 1; height <= 8; height++ {
		x, m := grown(t, height, l[:20]), modelOf(l[:20])
		before := tilesOf(x)
		for n := 1; n <= 22; n++ {
			isProve(t, x, m, n, upTo(n))
			isProve(t, x, m, n, []int{n / 2})
			for _, indices := range wrongFor(n) {
				isProve(t, x, m, n, indices)
			}
		}
		for _, n := range odd() {
			isProve(t, x, m, n, []int{0})
		}
		if !slices.EqualFunc(tilesOf(x), before, slices.Equal) {
			t.Errorf("R2: height %d: asking has changed the tree", height)
		}
		adds(t, x, l[20:])
		isProve(t, x, modelOf(l), 37, []int{0, 20, 36})
	}
}

// What is answered does not hang on what was asked ahead of it, of this tree or another one.
func TestNothingIsKept(t *testing.T) {
	a, b := some(25, "leaf"), append(some(7, "leaf"), some(18, "other")...)
	x, y := grown(t, 2, a), grown(t, 2, b)
	m, o := modelOf(a), modelOf(b)
	for size := range 27 {
		for _, indices := range [][]int{{0}, {size - 1}, {3, 9}, upTo(size)} {
			one, two := isProve(t, x, m, size, indices), isProve(t, y, o, size, indices)
			if one.Size == 0 {
				continue
			}
			// The same places, now with the one's leaves and now with the other's.
			isSaid(t, one, m.leaves(indices))
			isSaid(t, two, o.leaves(indices))
			isSaid(t, one, o.leaves(indices))
			isSaid(t, two, m.leaves(indices))
		}
	}
}

func TestCallsAtOnce(t *testing.T) {
	l := some(40, "leaf")
	x, m := grown(t, 2, l), modelOf(l)
	indices := []int{0, 1, 7, 20, 38}
	b, leaves := isProve(t, x, m, 40, indices), m.leaves(indices)
	t.Run("at once", func(t *testing.T) {
		for i := range 8 {
			t.Run(strconv.Itoa(i), func(t *testing.T) {
				t.Parallel()
				for n := 39; n <= 40; n++ {
					isProve(t, x, m, n, indices)
					isCount(t, n, indices)
				}
				isSaid(t, b, leaves)
			})
		}
	})
}
