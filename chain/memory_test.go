package chain_test

import (
	"math/rand"
	"slices"
	"strconv"
	"testing"

	"scrivener/api"
	"scrivener/chain"
	"scrivener/tile"
)

// overwrite writes into a list and all its spare room.
func overwrite[E any](l []E, with E) {
	l = l[:cap(l)]
	for i := range l {
		l[i] = with
	}
}

// roomy is a copy of a list with spare room, which is filled.
func roomy[E any](l []E, with E) []E {
	c := slices.Concat(l, slices.Repeat([]E{with}, 5))
	return c[:len(l)]
}

// isRoomy tells whether such a list and its spare room are as they were.
func isRoomy[E comparable](l, was []E, with E) bool {
	all := l[:len(l)+5]
	return slices.Equal(l, was) && !slices.ContainsFunc(all[len(l):], func(e E) bool { return e != with })
}

// tilesOf are all that a tree keeps.
func tilesOf(x *tile.Tree) [][]string {
	all := [][]string{{strconv.Itoa(x.Size()), strconv.Itoa(x.Height())}}
	for level := range 8 {
		for index := 0; ; index++ {
			row, e := x.Tile(level, index)
			if e != api.OK {
				break
			}
			all = append(all, row)
		}
	}
	return all
}

// What is handed in is not written into, nor its spare room, whether it is refused or not.
func TestListsAreNotWritten(t *testing.T) {
	l := some(70, "leaf")
	x, m := grown(t, 2, l), modelOf(l)
	for _, was := range append(wrongHeads(), []int{1}, []int{3, 5, 6}, []int{3, 4, 19, 70}, from(1, 1, 64)) {
		heads := roomy(was, -7)
		chain.Nodes(heads)
		chain.Prove(x, heads)
		c, _ := slowProve(m, m.size(), was)
		for _, hashes := range [][]string{c.Hashes, {l[0], "x"}} {
			for _, of := range [][]string{some(len(was), "root"), {"x"}} {
				told, given := roomy(hashes, "room"), roomy(of, "room")
				asked := api.Chain{Heads: heads, Hashes: told}
				chain.Expand(asked)
				chain.Check(asked, given)
				if !isRoomy(told, hashes, "room") || !isRoomy(given, of, "room") {
					t.Errorf("R2: of %v hashes or roots were written into", was)
				}
			}
		}
		if !isRoomy(heads, was, -7) {
			t.Errorf("R2: heads %v were written into: %v", was, heads)
		}
	}
}

// What came out is not what was handed in, nor what comes out of another call: writing into the one changes nothing of the other.
func TestListsAreNew(t *testing.T) {
	r := rand.New(rand.NewSource(21))
	l := some(70, "leaf")
	for height := 1; height <= 8; height++ {
		x, m := grown(t, height, l), modelOf(l)
		before := tilesOf(x)
		for n := 1; n <= len(l); n++ {
			was := someOf(r, n, 1+r.Intn(min(n, 64)))
			want, _ := slowProve(m, m.size(), was)
			spans, _ := slowNodes(was)
			heads := slices.Clone(was)
			c, _ := chain.Prove(x, heads)
			nodes, _ := chain.Nodes(heads)
			again, _ := chain.Prove(x, heads)
			others, _ := chain.Nodes(heads)
			overwrite(heads, -1)
			overwrite(again.Heads, -1)
			overwrite(again.Hashes, "over")
			overwrite(others, at(-1, -1))
			if !sameChain(c, want) || !slices.Equal(c.Heads, was) || !slices.Equal(nodes, spans) {
				t.Fatalf("R2: of %v a list is kept, or shared", was)
			}
			isProve(t, x, m, was)
			isNodes(t, was)
		}
		if !slices.EqualFunc(tilesOf(x), before, slices.Equal) {
			t.Errorf("R2: height %d: writing into the lists has changed the tree", height)
		}
	}
}

// Within one answer, and between answers, no two proofs share memory, nor with a chain.
func TestProofsAreNew(t *testing.T) {
	r := rand.New(rand.NewSource(22))
	l := some(70, "leaf")
	m := modelOf(l)
	for n := 1; n <= len(l); n++ {
		heads := someOf(r, n, 1+r.Intn(min(n, 64)))
		c, _ := slowProve(m, m.size(), heads)
		want, _ := slowExpand(c)
		told, were := slices.Clone(c.Hashes), slices.Clone(heads)
		proofs, _ := chain.Expand(c)
		other, _ := chain.Expand(c)
		for i := range other {
			overwrite(other[i], "over")
			for j := i + 1; j < len(other); j++ {
				if !slices.Equal(other[j], want[j]) {
					t.Fatalf("R2: Expand(%v): the proofs %d and %d share memory", heads, i, j)
				}
			}
		}
		overwrite(other, nil)
		if !sameProofs(proofs, want) || !slices.Equal(c.Hashes, told) || !slices.Equal(c.Heads, were) {
			t.Fatalf("R2: Expand(%v): a list is shared", heads)
		}
		// Nor is what was handed in kept.
		overwrite(c.Hashes, "over")
		overwrite(c.Heads, -1)
		if !sameProofs(proofs, want) {
			t.Fatalf("R2: Expand(%v): what was handed in is in the proofs", were)
		}
	}
}

// A chain that came out stays as it is when the tree goes on.
func TestChainsStay(t *testing.T) {
	r := rand.New(rand.NewSource(23))
	l := some(60, "leaf")
	x := grown(t, 1, nil)
	var all, copies []api.Chain
	for n, leaf := range l {
		adds(t, x, []string{leaf})
		c, _ := chain.Prove(x, someOf(r, n+1, 1+r.Intn(n+1)))
		all = append(all, c)
		copies = append(copies, api.Chain{Heads: slices.Clone(c.Heads), Hashes: slices.Clone(c.Hashes)})
	}
	if !slices.EqualFunc(all, copies, sameChain) {
		t.Error("R2: a chain was written into when the tree went on")
	}
}

// Asking changes nothing of the tree, whether it is refused or not.
func TestTreeStays(t *testing.T) {
	l := some(37, "leaf")
	for height := 1; height <= 8; height++ {
		x, m := grown(t, height, l[:20]), modelOf(l[:20])
		before := tilesOf(x)
		for n := 1; n <= 22; n++ {
			isProve(t, x, m, from(1, 1, n))
			isProve(t, x, m, []int{n})
			isProve(t, x, m, []int{1, n + 1})
		}
		for _, heads := range wrongHeads() {
			isProve(t, x, m, heads)
		}
		if !slices.EqualFunc(tilesOf(x), before, slices.Equal) {
			t.Errorf("R2: height %d: asking has changed the tree", height)
		}
		adds(t, x, l[20:])
		isProve(t, x, modelOf(l), []int{1, 20, 21, 37})
	}
}

// What is answered does not hang on what was asked ahead of it, of this tree or another one.
func TestNothingIsKept(t *testing.T) {
	a, b := some(25, "leaf"), append(some(7, "leaf"), some(18, "other")...)
	x, y := grown(t, 2, a), grown(t, 2, b)
	m, o := modelOf(a), modelOf(b)
	for size := 1; size < 27; size++ {
		for _, heads := range [][]int{{1, size}, {size - 1, size}, {3, 9, 25}, from(1, 1, size)} {
			one, two := isProve(t, x, m, heads), isProve(t, y, o, heads)
			if len(one.Heads) == 0 {
				continue
			}
			// The same heads, now with the one's hashes and roots and now with the other's.
			for _, c := range []api.Chain{one, two, one} {
				isExpand(t, c)
				isCheck(t, c, roots(m, heads))
				isCheck(t, c, roots(o, heads))
			}
		}
	}
}

func TestCallsAtOnce(t *testing.T) {
	l := some(40, "leaf")
	x, m := grown(t, 2, l), modelOf(l)
	heads := []int{1, 5, 6, 7, 20, 38, 40}
	c, of := isProve(t, x, m, heads), roots(m, heads)
	t.Run("at once", func(t *testing.T) {
		for i := range 8 {
			t.Run(strconv.Itoa(i), func(t *testing.T) {
				t.Parallel()
				for range 3 {
					isNodes(t, heads)
					isProve(t, x, m, heads)
					isExpand(t, c)
					isCheck(t, c, of)
				}
			})
		}
	})
}
