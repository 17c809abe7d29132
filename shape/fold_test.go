package shape_test

import (
	"math"
	"math/rand"
	"slices"
	"strconv"
	"testing"

	"scrivener/api"
	"scrivener/shape"
)

// isFold holds Fold to the words, of a want that is a subtree, and tells whether it can be folded.
func isFold(t *testing.T, n int, known []api.Span, hashes []string, want api.Span) bool {
	t.Helper()
	hash, ok := slowFold(known, hashes, want)
	e := api.ErrShapeOrder
	if ok {
		e = api.OK
	}
	if got, g := shape.Fold(n, known, hashes, want); got != hash || g != e {
		t.Errorf("H5: Fold(%d, %v, %v): %x, %d, want %x, %d", n, known, want, got, g, hash, e)
	}
	return ok
}

func noFold(t *testing.T, n int, known []api.Span, hashes []string, want api.Span, e api.Errno) {
	t.Helper()
	if hash, got := shape.Fold(n, known, hashes, want); hash != "" || got != e {
		t.Errorf("H5: Fold(%d) of %d known and %d hashes to %v: %x, %d, want the error %d", n, len(known), len(hashes), want, hash, got, e)
	}
}

func TestFoldOfAllSets(t *testing.T) {
	for n := 1; n <= 6; n++ {
		all := subtreesOf(at(0, n))
		hashes := some(len(all), "known")
		for set := range 1 << len(all) {
			var known []api.Span
			for i, s := range all {
				if set>>i&1 == 1 {
					known = append(known, s)
				}
			}
			for _, want := range all {
				isFold(t, n, known, hashes[:len(known)], want)
			}
		}
	}
}

// junk are spans that no tree of n leaves has as a subtree.
func junk(n int) []api.Span {
	l := []api.Span{at(0, 0), at(n, n), at(1, 0), at(n, 0), at(-1, 0), at(-1, n), at(-n, n), at(0, n+1), at(n, 2*n), at(math.MinInt, math.MaxInt), at(math.MaxInt, math.MinInt), at(0, math.MaxInt), at(math.MinInt, 0), at(0, math.MinInt), at(1, math.MinInt)}
	for b := range n {
		for e := range n + 1 {
			if !isSubtree(n, at(b, e)) {
				l = append(l, at(b, e))
			}
		}
	}
	return l
}

func TestFoldOfAnything(t *testing.T) {
	r := rand.New(rand.NewSource(8))
	for range 3000 {
		n := 1 + r.Intn(24)
		all, none := subtreesOf(at(0, n)), junk(n)
		var known []api.Span
		for range r.Intn(3 * n) {
			known = append(known, all[r.Intn(len(all))])
			if r.Intn(3) == 0 {
				known = append(known, none[r.Intn(len(none))])
			}
		}
		hashes := some(len(known), "known")
		for _, want := range all {
			isFold(t, n, known, hashes, want)
		}
	}
}

// What is known first counts; what is known of a span counts ahead of what is known of its parts, wherever it stands.
func TestFirstKnownCounts(t *testing.T) {
	h := some(6, "known")
	known := []api.Span{at(0, 1), at(1, 2), at(0, 2), at(0, 2), at(0, 1), at(2, 3)}
	for _, c := range []struct {
		from int
		want api.Span
		hash string
	}{
		{0, at(0, 1), h[0]},
		{1, at(0, 1), h[4]},
		{0, at(0, 2), h[2]},
		{3, at(0, 2), h[3]},
		{0, at(0, 3), node(h[2], h[5])},
		{4, at(2, 3), h[5]},
	} {
		if hash, e := shape.Fold(3, known[c.from:], h[c.from:], c.want); hash != c.hash || e != api.OK {
			t.Errorf("H5: Fold to %v of those from %d on: %x, %d", c.want, c.from, hash, e)
		}
	}
	// Greater ones than what is wanted do not help.
	noFold(t, 4, []api.Span{at(0, 4), at(0, 2)}, h[:2], at(0, 1), api.ErrShapeOrder)
	// Nor does what is the same span, but of another tree.
	noFold(t, 7, []api.Span{at(4, 8), at(0, 4)}, h[:2], at(0, 7), api.ErrShapeOrder)
}

// Of each fault alone, and of it with any of those that are named behind it, it is told.
func TestFoldRefused(t *testing.T) {
	type call struct {
		n      int
		known  []api.Span
		hashes []string
		want   api.Span
	}
	faults := []struct {
		e    api.Errno
		lays []func(c *call)
	}{
		{api.ErrShapeSize, []func(c *call){
			func(c *call) { c.n = 0 },
			func(c *call) { c.n = -1 },
			func(c *call) { c.n = api.MaxSize + 1 },
			func(c *call) { c.n = math.MaxInt },
			func(c *call) { c.n = math.MinInt },
		}},
		{api.ErrShapeMany, []func(c *call){
			func(c *call) { c.known = c.known[1:] },
			func(c *call) { c.hashes = c.hashes[1:] },
			func(c *call) { c.known = nil },
			func(c *call) { c.hashes = nil },
			func(c *call) { c.known = append(slices.Clone(c.known), make([]api.Span, 4097)...) },
			func(c *call) {
				c.known = append(slices.Clone(c.known), make([]api.Span, 4097-len(c.known))...)
				c.hashes = append(slices.Clone(c.hashes), slices.Repeat(c.hashes[:1], 4097-len(c.hashes))...)
			},
		}},
		{api.ErrArg, []func(c *call){
			func(c *call) { c.hashes = []string{"", long(32)} },
			func(c *call) { c.hashes = []string{long(31), long(32)} },
			func(c *call) { c.hashes = []string{long(32), long(33)} },
			func(c *call) { c.hashes = []string{long(32), long(64)} },
		}},
		{api.ErrShapeIndex, []func(c *call){
			func(c *call) { c.want = at(1, 3) },
			func(c *call) { c.want = at(0, 6) },
			func(c *call) { c.want = at(2, 2) },
			func(c *call) { c.want = at(5, 4) },
			func(c *call) { c.want = at(-1, 5) },
			func(c *call) { c.want = at(math.MinInt, math.MaxInt) },
		}},
		{api.ErrShapeOrder, []func(c *call){
			func(c *call) { c.known = []api.Span{at(0, 4), at(0, 4)} },
			func(c *call) { c.known = []api.Span{at(0, 2), at(4, 5)} },
			func(c *call) { c.known = []api.Span{at(0, 3), at(3, 5)} },
			func(c *call) { c.known = []api.Span{{}, {}} },
		}},
	}
	good := func() call {
		return call{5, []api.Span{at(4, 5), at(0, 4)}, some(2, "known"), at(0, 5)}
	}
	c := good()
	isFold(t, c.n, c.known, c.hashes, c.want)
	for i, f := range faults {
		for set := range 1 << (len(faults) - i - 1) {
			for _, lay := range f.lays {
				c := good()
				// Those named behind it are laid first, so that it stays a fault.
				for j := len(faults) - 1; j > i; j-- {
					if set>>(j-i-1)&1 == 1 {
						faults[j].lays[0](&c)
					}
				}
				lay(&c)
				noFold(t, c.n, c.known, c.hashes, c.want, f.e)
			}
		}
	}
}

func TestFoldOfNothing(t *testing.T) {
	for _, n := range []int{1, 2, 5, 4096, api.MaxSize} {
		noFold(t, n, nil, nil, at(0, n), api.ErrShapeOrder)
		noFold(t, n, []api.Span{}, []string{}, at(0, 1), api.ErrShapeOrder)
		noFold(t, n, nil, nil, at(0, 0), api.ErrShapeIndex)
	}
}

func TestFoldOfMany(t *testing.T) {
	l := some(4096, "leaf")
	var leaves []api.Span
	for i := range l {
		leaves = append(leaves, at(i, i+1))
	}
	for _, n := range []int{1, 2, 3, 1000, 4095, 4096} {
		for _, want := range []api.Span{at(0, n), at(n-1, n), at(0, 1), at(0, half(n))} {
			if hash, e := shape.Fold(n, leaves[:n], l[:n], want); hash != hashOfSpan(l, want) || e != api.OK {
				t.Errorf("H5: Fold(%d) of all leaves to %v: %d", n, want, e)
			}
		}
	}
	// In a great tree, in any order, with one missing and with all of them.
	far := api.MaxSize - 4096
	for i := range leaves {
		leaves[i] = at(far+i, far+i+1)
	}
	rand.New(rand.NewSource(9)).Shuffle(len(l), func(i, j int) {
		leaves[i], leaves[j], l[i], l[j] = leaves[j], leaves[i], l[j], l[i]
	})
	want := at(far, api.MaxSize)
	hash, e := shape.Fold(api.MaxSize, leaves, l, want)
	again := some(4096, "leaf")
	if hash != hashOfSpan(again, at(0, 4096)) || e != api.OK {
		t.Errorf("H5: Fold of the last 4096 leaves: %d", e)
	}
	noFold(t, api.MaxSize, leaves[1:], l[1:], want, api.ErrShapeOrder)
	noFold(t, api.MaxSize, leaves, l, at(0, api.MaxSize), api.ErrShapeOrder)
}

// No walk goes through a part without any known span: each of these would have up to 2^40 leaves to look at.
func TestFoldEndsSoon(t *testing.T) {
	n := api.MaxSize
	h := some(4096, "known")
	whole := at(0, n)
	for _, k := range []api.Span{at(0, 1), at(n-1, n), at(n/2, n/2+1), at(0, n/2), at(n/2, n), at(n/4, n/2), at(3, 7), at(1, n), {}} {
		noFold(t, n, []api.Span{k}, h[:1], whole, api.ErrShapeOrder)
		noFold(t, n, slices.Repeat([]api.Span{k}, 4096), h, whole, api.ErrShapeOrder)
		noFold(t, n-1, []api.Span{k}, h[:1], at(0, n-1), api.ErrShapeOrder)
	}
	// All but the one, at each place of a path.
	for _, leaf := range []int{0, n - 1, n/3 - 1, 1 << 39} {
		path, _ := shape.Path(n, leaf)
		known := append(path, at(leaf, leaf+1))
		isFold(t, n, known, h[:len(known)], whole)
		for i := range known {
			without := slices.Delete(slices.Clone(known), i, i+1)
			noFold(t, n, without, h[:len(without)], whole, api.ErrShapeOrder)
		}
		// As many more of the deepest ones as there may be.
		full := slices.Concat(known, slices.Repeat(known[:1], 4096-len(known)))
		isFold(t, n, full, h, whole)
	}
	// Leaves all over the tree, which leave gaps.
	var known []api.Span
	for i := range 4096 {
		b := i * (n / 4096)
		known = append(known, at(b, b+1))
	}
	noFold(t, n, known, h, whole, api.ErrShapeOrder)
	for i := range known {
		known[i].End = known[i].Begin + n/4096
	}
	isFold(t, n, known, h, whole)
}

func TestFoldOfPathsOfGreatTrees(t *testing.T) {
	r := rand.New(rand.NewSource(10))
	for i, n := range greatSizes(r) {
		for _, m := range edges(r, n) {
			path, _ := shape.Path(n, m)
			known := append(path, at(m, m+1))
			hashes := some(len(known), strconv.Itoa(i))
			isFold(t, n, known, hashes, at(0, n))
			// Of a proof and its beginning, the whole: the beginning is a subtree's, or the proof has it.
			proof, _ := shape.Proof(m+1, n)
			isFold(t, n, append(proof, at(0, m+1)), some(len(proof)+1, strconv.Itoa(i)), at(0, n))
		}
	}
}
