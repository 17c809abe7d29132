package chain_test

import (
	"math/rand"
	"slices"
	"strconv"
	"testing"

	"scrivener/api"
	"scrivener/chain"
	"scrivener/device"
	"scrivener/digest"
	"scrivener/recursion"
	"scrivener/shape"
	"scrivener/single"
	"scrivener/store"
	"scrivener/tile"
	"scrivener/verify"
)

// What follows: C5, and with it P1 and P2 as far as they speak of chains.

// asSingle holds what is told of a tree's heads to what layer 11 tells of each pair, and to the tree's roots; it tells the proofs, too.
func asSingle(t *testing.T, x *tile.Tree, heads []int) [][]string {
	t.Helper()
	c, e := chain.Prove(x, heads)
	proofs, f := chain.Expand(c)
	if e != api.OK || f != api.OK || len(proofs) != len(heads)-1 {
		t.Fatalf("C5: %v: %d proofs, %d, %d", heads, len(proofs), e, f)
	}
	var of []string
	all := 0
	for i, n := range heads {
		root, _ := x.Root(n)
		of = append(of, root)
		if i == 0 {
			continue
		}
		want, _ := single.Consistency(x, heads[i-1], n)
		all += len(want)
		if !slices.Equal(proofs[i-1], want) {
			t.Errorf("C5: %v: from %d to %d: not the proof of layer 11", heads, heads[i-1], n)
		}
		if e := verify.Consistency(heads[i-1], n, of[i-1], root, proofs[i-1]); e != api.OK {
			t.Errorf("P2: %v: from %d to %d: layer 4 refuses it: %d", heads, heads[i-1], n, e)
		}
	}
	if e := chain.Check(c, of); e != api.OK {
		t.Errorf("C5, P2: %v: Check: %d", heads, e)
	}
	if len(c.Hashes) > all {
		t.Errorf("C5: %v: %d hashes, and %d of all proofs", heads, len(c.Hashes), all)
	}
	return proofs
}

// asRecursion holds it to what layer 3 says of the first leaves of the tree.
func asRecursion(t *testing.T, x *tile.Tree, l []string, heads []int) {
	t.Helper()
	for i, got := range asSingle(t, x, heads) {
		if want, _ := recursion.Proof(l[:heads[i+1]], heads[i]); !slices.Equal(got, want) {
			t.Errorf("C5, P1: %v: from %d to %d: not the proof of layer 3", heads, heads[i], heads[i+1])
		}
	}
}

func TestAsRecursion(t *testing.T) {
	r := rand.New(rand.NewSource(11))
	l := some(80, "leaf")
	for height := 1; height <= 8; height++ {
		x := grown(t, height, l)
		for n := 1; n <= 70; n++ {
			for _, k := range []int{1, 2, 3, n/2 + 1, n} {
				asRecursion(t, x, l, someOf(r, n, min(k, 64)))
			}
		}
		asRecursion(t, x, l, from(1, 1, 64))
		asRecursion(t, x, l, from(17, 1, 64))
	}
}

func TestAsRecursionOfGreatLists(t *testing.T) {
	r := rand.New(rand.NewSource(12))
	l := some(api.MaxList, "leaf")
	x := grown(t, 5, append(slices.Clone(l), some(1000, "behind")...))
	for _, n := range []int{255, 256, 257, 1000, 2048, 2049, 4095, 4096} {
		for _, k := range []int{2, 3, 10} {
			asRecursion(t, x, l, append(someOf(r, n-1, k), n))
		}
		if testing.Short() && n > 256 {
			break
		}
	}
	asRecursion(t, x, l, from(64, 64, 64))
}

// isAccepted holds a chain of the form to layer 4: with some roots it is taken just if each of its proofs is taken alone. It tells whether it is.
func isAccepted(t *testing.T, c api.Chain, of []string) bool {
	t.Helper()
	proofs, e := chain.Expand(c)
	if e != api.OK || len(proofs) != len(c.Heads)-1 || len(of) != len(c.Heads) {
		t.Fatalf("C5: %v: %d proofs, %d", c.Heads, len(proofs), e)
	}
	each, want := true, api.ErrChainRoot
	for i, l := range proofs {
		each = each && verify.Consistency(c.Heads[i], c.Heads[i+1], of[i], of[i+1], l) == api.OK
	}
	if each {
		want = api.OK
	}
	if e := chain.Check(c, of); e != want {
		t.Errorf("C5, P2: %v: Check: %d, but layer 4 takes each: %t", c.Heads, e, each)
	}
	return each
}

// Each hash and each root counts, and its place: with another one there, or two changed about, a chain does not lead from root to root.
func TestEachHashCounts(t *testing.T) {
	l := some(9, "leaf")
	x, m := grown(t, 2, l), modelOf(l)
	for _, heads := range sets(9) {
		c, e := chain.Prove(x, heads)
		if len(c.Heads) != len(heads) || e != api.OK {
			t.Fatalf("C2: Prove(%v): %d", heads, e)
		}
		of := roots(m, heads)
		if !isAccepted(t, c, of) {
			t.Errorf("P2: %v: not taken", heads)
		}
		if len(heads) == 1 {
			continue
		}
		for _, list := range [][]string{c.Hashes, of} {
			for i := range list {
				kept := list[i]
				list[i] = hashOf(kept)
				if isAccepted(t, c, of) {
					t.Errorf("P2: %v with another hash is taken", heads)
				}
				list[i] = kept
				if k := (i + 1) % len(list); k != i {
					list[i], list[k] = list[k], list[i]
					if isAccepted(t, c, of) {
						t.Errorf("P2: %v with two changed about is taken", heads)
					}
					list[i], list[k] = list[k], list[i]
				}
			}
		}
	}
}

// Also of a tree of 2^40 leaves each hash and each root counts.
func TestEachHashOfAVastTreeCounts(t *testing.T) {
	r := rand.New(rand.NewSource(13))
	for i, heads := range greatLists(r) {
		x := vastOf([]int{0, heads[0] - 1, heads[len(heads)-1] - 1}, "other")
		c, _ := slowProve(x, 1<<40, heads)
		of := roots(x, heads)
		if !isAccepted(t, c, of) {
			t.Errorf("P2: %v: not taken", heads)
		}
		for range 3 {
			list := [][]string{c.Hashes, of}[r.Intn(2)]
			if len(heads) == 1 || len(list) == 0 {
				continue
			}
			k := r.Intn(len(list))
			kept := list[k]
			list[k] = hashOf(kept)
			if isAccepted(t, c, of) {
				t.Errorf("P2: %v with another hash is taken", heads)
			}
			list[k] = kept
		}
		if testing.Short() && i > 30 {
			break
		}
	}
}

// Of other heads a chain is none, or is held to layer 4 as any other one. (It may be taken then: a root does not tell of which size it is.)
func TestOtherHeads(t *testing.T) {
	l := some(9, "leaf")
	x, m := grown(t, 2, l), modelOf(l)
	for _, heads := range sets(8) {
		c, _ := chain.Prove(x, heads)
		others := [][]int{heads[1:], heads[:len(heads)-1], append(slices.Clone(heads), 9)}
		for i := range heads {
			moved := slices.Clone(heads)
			moved[i]++
			others = append(others, moved)
		}
		for _, other := range others {
			d := api.Chain{Heads: other, Hashes: c.Hashes}
			if _, e := slowExpand(d); e != api.OK {
				fail(t, "other heads", d, e)
				continue
			}
			isExpand(t, d)
			isAccepted(t, d, roots(m, other))
			if len(other) == len(heads) {
				isAccepted(t, d, roots(m, heads))
			}
		}
	}
}

// A log of two faces: with the roots of the one a chain of the other is taken only if it is that of both, since it tells nothing of the entry that they have not in common.
func TestTwoFaces(t *testing.T) {
	l := some(12, "leaf")
	x, m := grown(t, 2, l), modelOf(l)
	unlike := 0
	for place := range l {
		face := with(l, place, hashOf("another face"))
		y, o := grown(t, 2, face), modelOf(face)
		for _, heads := range [][]int{{1, 12}, {3, 5, 6, 12}, from(1, 1, 12), {8, 12}, {7, 8, 11, 12}} {
			c, _ := chain.Prove(x, heads)
			d, _ := chain.Prove(y, heads)
			if isAccepted(t, d, roots(m, heads)) != sameChain(c, d) {
				t.Errorf("P2: entry %d is another one: %v, with the other face's roots", place, heads)
			}
			if !sameChain(c, d) {
				unlike++
			}
			// From the first head of the one it leads to the other just if they were the same then.
			of := roots(o, heads)
			of[0] = m.hash(at(0, heads[0]))
			if isAccepted(t, d, of) != (place >= heads[0]) {
				t.Errorf("P2: entry %d is another one: %v from one face to the other", place, heads)
			}
		}
	}
	if unlike < 40 {
		t.Errorf("only %d of the chains were unlike", unlike)
	}
}

// No span is told twice, nor one that can be worked out of those told ahead of it; and of what is told each pair's spans can be.
func TestNoSpanTwice(t *testing.T) {
	r := rand.New(rand.NewSource(14))
	lists := sets(9)
	for range 100 {
		lists = append(lists, someOf(r, 300, 2+r.Intn(63)), about(r, 2+r.Intn(10)))
	}
	for _, heads := range lists {
		spans, e := chain.Nodes(heads)
		if e != api.OK {
			t.Fatalf("C1: Nodes(%v): %d", heads, e)
		}
		any := slices.Repeat([]string{hashOf("any")}, len(spans))
		for i, s := range spans {
			size := heads[0]
			for _, n := range heads {
				// It is a subtree of the tree of some head.
				if shape.Inside(n, s) {
					size = n
					break
				}
			}
			if _, e := shape.Fold(size, spans[:i], any[:i], s); e != api.ErrShapeOrder {
				t.Errorf("C1: Nodes(%v): %v is told, though it could be folded: %d", heads, s, e)
			}
		}
		for i := 1; i < len(heads); i++ {
			of, _ := shape.Proof(heads[i-1], heads[i])
			for _, s := range of {
				if _, e := shape.Fold(heads[i], spans, any, s); e != api.OK {
					t.Errorf("C1: Nodes(%v): %v can't be folded: %d", heads, s, e)
				}
			}
		}
	}
}

// A chain of the first heads is a beginning of that of all.
func TestBeginnings(t *testing.T) {
	r := rand.New(rand.NewSource(15))
	for _, heads := range append(sets(8), about(r, 20), someOf(r, 1<<40, 30), from(1, 1, 64)) {
		all, _ := chain.Nodes(heads)
		for k := 1; k <= len(heads); k++ {
			spans, e := chain.Nodes(heads[:k])
			if e != api.OK || len(spans) > len(all) || !slices.Equal(spans, all[:len(spans)]) {
				t.Errorf("C1: Nodes(%v): no beginning of those of %v, %d", heads[:k], heads, e)
			}
		}
	}
}

// What comes behind the last head, and the height of the tiles, changes nothing.
func TestFirstLeavesAlone(t *testing.T) {
	r := rand.New(rand.NewSource(16))
	l := some(33, "leaf")
	for _, n := range []int{1, 2, 3, 4, 7, 8, 16, 21, 32, 33} {
		heads := someOf(r, n, 1+n/3)
		want, _ := chain.Prove(grown(t, 1, l[:n]), heads)
		for height := 1; height <= 8; height++ {
			x := grown(t, height, l[:n])
			for behind, more := range []int{0, 1, 1, 5, 31, 64} {
				adds(t, x, some(more, "behind "+strconv.Itoa(behind)))
				if c, e := chain.Prove(x, heads); !sameChain(c, want) || e != api.OK {
					t.Errorf("C2: height %d: of the heads %v another thing is told, now that there are %d: %d", height, heads, x.Size(), e)
				}
			}
		}
	}
}

// What was refused as too far ahead is told when the tree has come there.
func TestRefusedUntilItIsThere(t *testing.T) {
	l := some(20, "leaf")
	x := grown(t, 2, nil)
	for n := 1; n <= len(l); n++ {
		heads := from(1, 1, n)
		c, e := chain.Prove(x, heads)
		refused(t, "C2: ahead of the tree", c, e, api.ErrChainHeads)
		adds(t, x, l[n-1:n])
		asRecursion(t, x, l, heads)
	}
}

// The trees of a log on a device: one that grows, and that of the log when it is opened again. The heads are those that it had behind each batch.
func TestTreesOfAStore(t *testing.T) {
	disk, _ := device.New(64)
	if e := store.Format(disk); e != api.OK {
		t.Fatalf("layer 10: Format: %d", e)
	}
	log, e := store.Open(disk)
	if e != api.OK {
		t.Fatalf("layer 10: Open: %d", e)
	}
	var l []string
	var heads []int
	for i := range 30 {
		entries := []string{"entry " + strconv.Itoa(i), "", "more"}[:1+i%3]
		if _, e := log.Append(entries); e != api.OK {
			t.Fatalf("layer 10: Append: %d", e)
		}
		for _, entry := range entries {
			l = append(l, digest.Leaf(entry))
		}
		heads = append(heads, len(l))
		again, _ := store.Open(disk)
		for _, x := range []*tile.Tree{log.Tree(), again.Tree()} {
			asRecursion(t, x, l, heads)
			asRecursion(t, x, l, heads[i/2:])
		}
	}
}

// Of a tree that layer 3 can't list, layers 4 and 11 say the same.
func TestFullTreeIsAccepted(t *testing.T) {
	if testing.Short() {
		t.Skip("it has 1048576 leaves")
	}
	r := rand.New(rand.NewSource(17))
	x := full().tree
	for i := range 30 {
		heads := someOf(r, api.MaxLeaves-64, 1+r.Intn(63))
		if i%3 == 0 {
			heads = append(heads, api.MaxLeaves-i)
		}
		asSingle(t, x, heads)
	}
}
