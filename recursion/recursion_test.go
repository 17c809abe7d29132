package recursion_test

import (
	"math"
	"math/big"
	"math/rand"
	"slices"
	"testing"

	"scrivener/api"
	"scrivener/recursion"
)

func TestSplit(t *testing.T) {
	numbers := []int{math.MinInt, math.MinInt + 1, -1 << 40, -3, -2, -1, 0, 1, math.MaxInt - 1, math.MaxInt}
	for n := 2; n < 600; n++ {
		numbers = append(numbers, n)
	}
	for i := 1; i < 63; i++ {
		numbers = append(numbers, 1<<i-1, 1<<i, 1<<i+1)
	}
	for _, n := range numbers {
		want := 0
		for i := range 63 {
			if 1<<i < n {
				want = 1 << i
			}
		}
		if k := recursion.Split(n); k != want {
			t.Errorf("T1: Split(%d): %d, want %d", n, k, want)
		}
	}
}

// answer is that of any of the calls; a root is a list of one.
type answer struct {
	hashes []string
	e      api.Errno
}

// ask is one of the calls with its further arguments.
type ask struct {
	name string
	of   func(l []string) answer
}

func one(hash string, e api.Errno) answer {
	if hash == "" {
		return answer{nil, e}
	}
	return answer{[]string{hash}, e}
}

func rootAsk() ask {
	return ask{"Root", func(l []string) answer { return one(recursion.Root(l)) }}
}

func partAsk(begin, end int) ask {
	return ask{"Part", func(l []string) answer { return one(recursion.Part(l, api.Span{Begin: begin, End: end})) }}
}

func pathAsk(index int) ask {
	return ask{"Path", func(l []string) answer {
		p, e := recursion.Path(l, index)
		return answer{p, e}
	}}
}

func proofAsk(first int) ask {
	return ask{"Proof", func(l []string) answer {
		p, e := recursion.Proof(l, first)
		return answer{p, e}
	}}
}

func manyAsk(indices ...int) ask {
	return ask{"Many", func(l []string) answer {
		p, e := recursion.Many(l, indices)
		return answer{p, e}
	}}
}

func (a ask) refused(t *testing.T, promise string, l []string, want api.Errno) {
	t.Helper()
	if got := a.of(l); got.e != want || len(got.hashes) != 0 {
		t.Errorf("%s: %s of %d leaves: %d and %d hashes, want the error %d", promise, a.name, len(l), got.e, len(got.hashes), want)
	}
}

func (a ask) answers(t *testing.T, promise string, l []string, want ...string) {
	t.Helper()
	if got := a.of(l); got.e != api.OK || !slices.Equal(got.hashes, want) {
		t.Errorf("%s: %s of %d leaves: %x, %d, want %x", promise, a.name, len(l), got.hashes, got.e, want)
	}
}

func with(l []string, at int, leaf string) []string {
	c := slices.Clone(l)
	c[at] = leaf
	return c
}

func TestLeavesRefused(t *testing.T) {
	right := []ask{rootAsk(), partAsk(1, 3), pathAsk(2), proofAsk(3), manyAsk(0, 2)}
	wrong := []ask{partAsk(-1, 0), partAsk(2, 1), pathAsk(-1), pathAsk(9999), proofAsk(0), proofAsk(9999), manyAsk(), manyAsk(2, 1)}
	full, over := some(4096, "full"), some(4097, "over")
	for _, a := range right {
		if got := a.of(full); got.e != api.OK || len(got.hashes) == 0 {
			t.Errorf("T2: %s of 4096 leaves: %d", a.name, got.e)
		}
	}
	for _, a := range append(right, wrong...) {
		a.refused(t, "T2", over, api.ErrTreeSize)
		for _, at := range []int{0, 7, 4096} {
			a.refused(t, "T2", with(over, at, "short"), api.ErrTreeSize)
		}
		for _, at := range []int{0, 2, 7, 4095} {
			for _, leaf := range []string{"", full[0][:31], full[0] + "x", full[0] + full[1]} {
				a.refused(t, "T2", with(full, at, leaf), api.ErrTreeHash)
			}
		}
	}
}

func TestRoot(t *testing.T) {
	for _, n := range []int{100, 255, 256, 257, 1000, 2048, 2049, 4095, 4096} {
		l := some(n, "root")
		rootAsk().answers(t, "T3", l, slowRoot(l))
	}
	rootAsk().answers(t, "T3", nil, slowRoot(nil))
	for n := range 70 {
		l := some(n, "root")
		rootAsk().answers(t, "T3", l, slowRoot(l))
	}
}

func TestPart(t *testing.T) {
	for _, n := range []int{0, 1, 2, 3, 4, 5, 8, 13, 37} {
		l := some(n, "part")
		for b := -2; b < n+3; b++ {
			for e := -2; e < n+3; e++ {
				if 0 <= b && b <= e && e <= n {
					partAsk(b, e).answers(t, "T3", l, slowRoot(l[b:e]))
				} else {
					partAsk(b, e).refused(t, "T3", l, api.ErrTreeIndex)
				}
			}
		}
		for _, far := range []int{math.MinInt, math.MaxInt} {
			partAsk(far, 0).refused(t, "T3", l, api.ErrTreeIndex)
			partAsk(0, far).refused(t, "T3", l, api.ErrTreeIndex)
			partAsk(far, far).refused(t, "T3", l, api.ErrTreeIndex)
			partAsk(far, ^far).refused(t, "T3", l, api.ErrTreeIndex)
		}
	}
	l := some(4096, "part")
	for _, s := range [][2]int{{0, 4096}, {1, 4096}, {0, 4095}, {2047, 2050}, {4096, 4096}} {
		partAsk(s[0], s[1]).answers(t, "T3", l, slowRoot(l[s[0]:s[1]]))
	}
}

func TestPathAndProof(t *testing.T) {
	for n := range 48 {
		l := some(n, "path")
		m := newModel(l)
		for i := range n {
			pathAsk(i).answers(t, "T4", l, m.path(i)...)
			proofAsk(i+1).answers(t, "T4", l, m.proof(i+1)...)
		}
		for _, i := range []int{math.MinInt, -2, -1, n, n + 1, math.MaxInt} {
			pathAsk(i).refused(t, "T4", l, api.ErrTreeIndex)
		}
		for _, i := range []int{math.MinInt, -1, 0, n + 1, n + 2, math.MaxInt} {
			proofAsk(i).refused(t, "T4", l, api.ErrTreeSize)
		}
	}
	for _, n := range []int{4095, 4096} {
		l := some(n, "path")
		m := newModel(l)
		for _, i := range []int{0, 1, 2047, 2048, 3000, 4094, n - 1} {
			pathAsk(i).answers(t, "T4", l, m.path(i)...)
			proofAsk(i+1).answers(t, "T4", l, m.proof(i+1)...)
		}
	}
}

// picked are the places of the ones in the digits of a number.
func picked(set, n int) []int {
	var out []int
	for i := range n {
		if set>>i&1 == 1 {
			out = append(out, i)
		}
	}
	return out
}

func TestMany(t *testing.T) {
	for n := 1; n <= 9; n++ {
		l := some(n, "many")
		m := newModel(l)
		for set := 1; set < 1<<n; set++ {
			in := picked(set, n)
			manyAsk(in...).answers(t, "T4", l, m.many(in)...)
		}
	}
	random := rand.New(rand.NewSource(3))
	for range 300 {
		n := 1 + random.Intn(60)
		l := some(n, "many")
		in := random.Perm(n)[:1+random.Intn(n)]
		slices.Sort(in)
		manyAsk(in...).answers(t, "T4", l, newModel(l).many(in)...)
	}
}

func TestManyOfALot(t *testing.T) {
	l := some(300, "a lot")
	var all []int
	for i := range 300 {
		all = append(all, i)
	}
	m := newModel(l)
	manyAsk(all[:256]...).answers(t, "T4", l, m.many(all[:256])...)
	manyAsk(all[44:]...).answers(t, "T4", l, m.many(all[44:])...)
	manyAsk(all[:257]...).refused(t, "T4", l, api.ErrTreeIndex)
	manyAsk(all...).refused(t, "T4", l, api.ErrTreeIndex)
	manyAsk(all[:256]...).answers(t, "T4", l[:256])
	manyAsk(all[:256]...).refused(t, "T4", l[:255], api.ErrTreeIndex)
}

func TestManyRefused(t *testing.T) {
	wrong := [][]int{
		{}, {-1}, {math.MinInt}, {5}, {math.MaxInt}, {0, 5}, {4, 5}, {-1, 0}, {math.MinInt, 2},
		{0, 0}, {4, 4}, {1, 0}, {0, 2, 1}, {0, 1, 2, 3, 3}, {0, 1, 2, 4, 3}, {3, 1, 2}, {0, math.MaxInt, 1},
	}
	for _, in := range wrong {
		manyAsk(in...).refused(t, "T4", some(5, "many"), api.ErrTreeIndex)
	}
	manyAsk().refused(t, "T4", nil, api.ErrTreeIndex)
	manyAsk(0).refused(t, "T4", nil, api.ErrTreeIndex)
}

func TestExamples(t *testing.T) {
	l := some(5, "example")
	a, b, c, d, e := l[0], l[1], l[2], l[3], l[4]
	ab, cd := node(a, b), node(c, d)
	abcd := node(ab, cd)
	rootAsk().answers(t, "1", l, node(abcd, e))
	rootAsk().answers(t, "1", nil, slowRoot(nil))
	partAsk(1, 4).answers(t, "1", l, node(node(b, c), d))
	pathAsk(2).answers(t, "2", l, d, ab, e)
	pathAsk(4).answers(t, "2", l, abcd)
	pathAsk(5).refused(t, "2", l, api.ErrTreeIndex)
	proofAsk(3).answers(t, "3", l, c, d, ab, e)
	proofAsk(4).answers(t, "3", l, e)
	proofAsk(5).answers(t, "3", l)
	proofAsk(0).refused(t, "3", l, api.ErrTreeSize)
	manyAsk(0, 4).answers(t, "4", l, b, cd)
	manyAsk(1, 0).refused(t, "4", l, api.ErrTreeIndex)
}

// digitsOf counts the digits in base 2; 0 has none.
func digitsOf(n int) int { return big.NewInt(int64(n)).BitLen() }
