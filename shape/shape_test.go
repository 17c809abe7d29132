package shape_test

import (
	"math"
	"math/rand"
	"slices"
	"testing"

	"scrivener/api"
	"scrivener/shape"
)

// told is what a call answers that tells spans.
type told struct {
	spans []api.Span
	e     api.Errno
}

func pathOf(size, index int) told {
	l, e := shape.Path(size, index)
	return told{l, e}
}

func proofOf(first, second int) told {
	l, e := shape.Proof(first, second)
	return told{l, e}
}

func batchOf(size int, indices ...int) told {
	l, e := shape.Batch(size, indices)
	return told{l, e}
}

func runOf(size, begin, end int) told {
	l, e := shape.Run(size, at(begin, end))
	return told{l, e}
}

func (x told) is(t *testing.T, what string, want ...api.Span) {
	t.Helper()
	if x.e != api.OK || !slices.Equal(x.spans, want) {
		t.Errorf("%s: %v, %d, want %v", what, x.spans, x.e, want)
	}
}

func (x told) refused(t *testing.T, what string, want api.Errno) {
	t.Helper()
	if x.e != want || len(x.spans) != 0 {
		t.Errorf("%s: %v, %d, want the error %d", what, x.spans, x.e, want)
	}
}

func isCover(t *testing.T, s api.Span) {
	t.Helper()
	if l, e := shape.Cover(s); e != api.OK || !slices.Equal(l, slowCover(s)) {
		t.Errorf("H1: Cover(%v): %v, %d, want %v", s, l, e, slowCover(s))
	}
}

func noCover(t *testing.T, s api.Span) {
	t.Helper()
	if l, e := shape.Cover(s); e != api.ErrShapeIndex || len(l) != 0 {
		t.Errorf("H1: Cover(%v): %v, %d", s, l, e)
	}
}

func TestExamples(t *testing.T) {
	want := []api.Node{{Level: 0, Index: 1}, {Level: 1, Index: 1}, {Level: 1, Index: 2}, {Level: 0, Index: 6}}
	if l, e := shape.Cover(at(1, 7)); e != api.OK || !slices.Equal(l, want) {
		t.Errorf("1: Cover: %v, %d", l, e)
	}
	if !shape.Inside(5, at(0, 4)) || !shape.Inside(5, at(4, 5)) || shape.Inside(5, at(1, 3)) || shape.Inside(4, at(0, 5)) {
		t.Error("1: Inside")
	}
	pathOf(5, 4).is(t, "2", at(0, 4))
	pathOf(5, 0).is(t, "2", at(1, 2), at(2, 4), at(4, 5))
	proofOf(3, 5).is(t, "2", at(2, 3), at(3, 4), at(0, 2), at(4, 5))
	proofOf(4, 5).is(t, "2", at(4, 5))
	batchOf(5, 0, 3).is(t, "3", at(1, 2), at(2, 3), at(4, 5))
	runOf(5, 1, 4).is(t, "3", at(0, 1), at(4, 5))
	runOf(5, 0, 5).is(t, "3")
	x, y := hashOf("x"), hashOf("y")
	if hash, e := shape.Fold(5, []api.Span{at(0, 4), at(4, 5)}, []string{x, y}, at(0, 5)); hash != node(x, y) || e != api.OK {
		t.Errorf("4: Fold of two: %x, %d", hash, e)
	}
	if hash, e := shape.Fold(5, []api.Span{at(0, 4)}, []string{x}, at(0, 5)); hash != "" || e != api.ErrShapeOrder {
		t.Errorf("4: Fold of one: %x, %d", hash, e)
	}
}

func TestCover(t *testing.T) {
	for b := range 70 {
		for e := b; e < 70; e++ {
			isCover(t, at(b, e))
		}
	}
	r := rand.New(rand.NewSource(1))
	for _, n := range greatSizes(r) {
		for _, b := range edges(r, n) {
			isCover(t, at(b, n))
			isCover(t, at(b, b))
			for _, e := range edges(r, n) {
				if b < e {
					isCover(t, at(b, e))
				}
			}
		}
	}
	isCover(t, at(0, api.MaxSize))
	isCover(t, at(1, api.MaxSize))
	isCover(t, at(1, api.MaxSize-1))
	isCover(t, at(api.MaxSize, api.MaxSize))
}

func TestCoverRefused(t *testing.T) {
	for _, far := range []int{math.MinInt, math.MinInt + 1, -api.MaxSize, -1, api.MaxSize + 1, 1 << 62, math.MaxInt} {
		for _, near := range []int{0, 1, 5, api.MaxSize} {
			noCover(t, at(far, near))
			noCover(t, at(near, far))
		}
		noCover(t, at(far, far))
		noCover(t, at(far, ^far))
	}
	for _, s := range []api.Span{at(1, 0), at(4, 3), at(api.MaxSize, 0), at(api.MaxSize, api.MaxSize-1)} {
		noCover(t, s)
	}
}

func TestInside(t *testing.T) {
	for n := 1; n <= 40; n++ {
		all := subtreesOf(at(0, n))
		for b := -2; b < n+3; b++ {
			for e := -2; e < n+3; e++ {
				want := slices.Contains(all, at(b, e))
				if is := shape.Inside(n, at(b, e)); is != want || isSubtree(n, at(b, e)) != want {
					t.Errorf("H1: Inside(%d, [%d, %d)): %t, want %t", n, b, e, is, want)
				}
			}
		}
	}
}

func TestInsideGreatTrees(t *testing.T) {
	r := rand.New(rand.NewSource(2))
	for _, n := range greatSizes(r) {
		for _, b := range append(edges(r, n), noLeaves(n)...) {
			spans := []api.Span{at(b, n), at(b, b), at(b, b-1), at(b, math.MaxInt), at(b, math.MinInt)}
			for p := 1; p <= 1<<41; p *= 2 {
				down := b &^ (p - 1)
				spans = append(spans, at(b, b+p), at(down, down+p), at(down, min(down+p, n)), at(down, down+p-1), at(down, n))
			}
			for _, s := range spans {
				if is := shape.Inside(n, s); is != isSubtree(n, s) {
					t.Errorf("H1: Inside(%d, %v): %t", n, s, is)
				}
			}
		}
	}
	for _, n := range noSizes() {
		for _, s := range []api.Span{at(0, n), at(0, 0), at(0, 1), at(n-1, n), at(0, api.MaxSize)} {
			if shape.Inside(n, s) {
				t.Errorf("H1: Inside(%d, %v), where there is no such size", n, s)
			}
		}
	}
}

func TestPath(t *testing.T) {
	for n := 1; n <= 130; n++ {
		for m := range n {
			pathOf(n, m).is(t, "H2", slowPath(at(0, n), m)...)
		}
	}
	r := rand.New(rand.NewSource(3))
	for _, n := range greatSizes(r) {
		for _, m := range edges(r, n) {
			pathOf(n, m).is(t, "H2", slowPath(at(0, n), m)...)
		}
	}
}

func TestPathRefused(t *testing.T) {
	for _, n := range noSizes() {
		for _, m := range append(noLeaves(1), 0, 1, n-1) {
			pathOf(n, m).refused(t, "H2", api.ErrShapeSize)
		}
	}
	for _, n := range []int{1, 2, 5, 8, api.MaxSize - 1, api.MaxSize} {
		for _, m := range noLeaves(n) {
			pathOf(n, m).refused(t, "H2", api.ErrShapeIndex)
		}
	}
}

func TestProof(t *testing.T) {
	for n := 1; n <= 130; n++ {
		for m := 1; m <= n; m++ {
			proofOf(m, n).is(t, "H3", slowProof(at(0, n), m, true)...)
		}
	}
	r := rand.New(rand.NewSource(4))
	for _, n := range greatSizes(r) {
		for _, m := range edges(r, n) {
			proofOf(m+1, n).is(t, "H3", slowProof(at(0, n), m+1, true)...)
		}
		proofOf(n, n).is(t, "H3")
	}
}

func TestProofRefused(t *testing.T) {
	for _, n := range noSizes() {
		for _, m := range []int{math.MinInt, -1, 0, 1, 5, api.MaxSize, n, math.MaxInt} {
			proofOf(m, n).refused(t, "H3", api.ErrShapeSize)
			proofOf(n, m).refused(t, "H3", api.ErrShapeSize)
		}
	}
	for _, n := range []int{1, 2, 5, 8, api.MaxSize - 1, api.MaxSize} {
		for _, m := range []int{math.MinInt, -n, -1, 0, n + 1, n + 2, math.MaxInt} {
			proofOf(m, n).refused(t, "H3", api.ErrShapeSize)
		}
	}
}

func TestBatch(t *testing.T) {
	for n := 1; n <= 11; n++ {
		for set := 1; set < 1<<n; set++ {
			var in []int
			for i := range n {
				if set>>i&1 == 1 {
					in = append(in, i)
				}
			}
			batchOf(n, in...).is(t, "H4", picked(n, in)...)
		}
	}
	r := rand.New(rand.NewSource(5))
	for range 400 {
		n := 1 + r.Intn(120)
		in := someOf(r, n, 1+r.Intn(n))
		batchOf(n, in...).is(t, "H4", picked(n, in)...)
	}
}

func TestBatchOfGreatTrees(t *testing.T) {
	r := rand.New(rand.NewSource(6))
	for _, n := range greatSizes(r) {
		for _, k := range []int{1, 2, 3, 17, 256} {
			in := someOf(r, n, k)
			batchOf(n, in...).is(t, "H4", slowBatch(n, in)...)
		}
		ends := slices.Compact([]int{0, half(n) - 1, half(n), n - 1})
		batchOf(n, ends...).is(t, "H4", slowBatch(n, ends)...)
	}
}

// upTo are the numbers below n.
func upTo(n int) []int {
	var l []int
	for i := range n {
		l = append(l, i)
	}
	return l
}

// Of each fault alone, and of all behind it together, the one that is named first is told.
func TestBatchRefused(t *testing.T) {
	falling := slices.Clone(upTo(257))
	slices.Reverse(falling)
	lists := [][]int{nil, {}, upTo(257), upTo(300), falling, {0}, {1, 0}, {-1, 9}, {9}, {math.MaxInt, math.MinInt}}
	for _, n := range noSizes() {
		for _, in := range lists {
			batchOf(n, in...).refused(t, "H4", api.ErrShapeSize)
		}
	}
	for _, n := range []int{1, 5, 300, api.MaxSize} {
		for _, in := range lists[:5] {
			batchOf(n, in...).refused(t, "H4", api.ErrShapeMany)
		}
		for _, in := range [][]int{{0, 0}, {1, 0}, {-1, -1}, {n, n}, {n, 0}, {0, -1}, {-1, 0, 0}, {0, n, n}, {0, n, 0}, {math.MaxInt, math.MinInt}, {-2, n, 3, n + 1}} {
			batchOf(n, in...).refused(t, "H4", api.ErrShapeOrder)
		}
		for _, m := range noLeaves(n) {
			batchOf(n, m).refused(t, "H4", api.ErrShapeIndex)
			in := []int{0, m}
			slices.Sort(in)
			batchOf(n, in...).refused(t, "H4", api.ErrShapeIndex)
		}
		batchOf(n, math.MinInt, 0, math.MaxInt).refused(t, "H4", api.ErrShapeIndex)
	}
	late := upTo(256)
	late[255] = 254
	batchOf(256, late...).refused(t, "H4", api.ErrShapeOrder)
	late[255] = 256
	batchOf(256, late...).refused(t, "H4", api.ErrShapeIndex)
	batchOf(255, upTo(256)...).refused(t, "H4", api.ErrShapeIndex)
	batchOf(256, upTo(256)...).is(t, "H4")
	batchOf(257, upTo(256)...).is(t, "H4", at(256, 257))
}

func TestRun(t *testing.T) {
	for n := 1; n <= 34; n++ {
		for b := -2; b < n+3; b++ {
			for e := -2; e < n+3; e++ {
				if 0 <= b && b < e && e <= n {
					runOf(n, b, e).is(t, "H4", picked(n, upTo(e)[b:])...)
				} else {
					runOf(n, b, e).refused(t, "H4", api.ErrShapeIndex)
				}
			}
		}
	}
}

func TestRunOfGreatTrees(t *testing.T) {
	r := rand.New(rand.NewSource(7))
	for _, n := range greatSizes(r) {
		for _, b := range edges(r, n) {
			for _, e := range append(edges(r, n), n) {
				if b < e {
					runOf(n, b, e).is(t, "H4", slowRun(n, at(b, e))...)
				} else {
					runOf(n, b, e).refused(t, "H4", api.ErrShapeIndex)
				}
			}
		}
		for _, far := range noLeaves(n) {
			runOf(n, far, far).refused(t, "H4", api.ErrShapeIndex)
			runOf(n, far, ^far).refused(t, "H4", api.ErrShapeIndex)
			runOf(n, far, n).refused(t, "H4", api.ErrShapeIndex)
			if far != n {
				runOf(n, 0, far).refused(t, "H4", api.ErrShapeIndex)
			}
		}
	}
	for _, n := range noSizes() {
		for _, s := range []api.Span{at(0, 1), at(0, n), at(0, 0), at(-1, 3), at(n-1, n), at(0, math.MaxInt)} {
			runOf(n, s.Begin, s.End).refused(t, "H4", api.ErrShapeSize)
		}
	}
}
