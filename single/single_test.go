package single_test

import (
	"math/rand"
	"slices"
	"strconv"
	"sync"
	"testing"

	"scrivener/api"
	"scrivener/single"
	"scrivener/tile"
)

func told(t *testing.T, what string, got []string, e api.Errno, want ...string) {
	t.Helper()
	if e != api.OK || !slices.Equal(got, want) {
		t.Errorf("%s: %x, %d, want %x", what, got, e, want)
	}
}

func refused(t *testing.T, what string, got []string, e, want api.Errno) {
	t.Helper()
	if e != want || len(got) != 0 {
		t.Errorf("%s: %d hashes, %d, want the error %d", what, len(got), e, want)
	}
}

func TestExampleOfPaths(t *testing.T) {
	l := some(5, "leaf")
	x := grown(t, 2, l)
	for _, c := range []struct {
		size, index int
		want        []string
	}{
		{5, 4, []string{node(node(l[0], l[1]), node(l[2], l[3]))}},
		{3, 0, []string{l[1], l[2]}},
		{1, 0, nil},
	} {
		got, e := single.Inclusion(x, c.size, c.index)
		told(t, "S1: Inclusion of "+strconv.Itoa(c.size), got, e, c.want...)
	}
	got, e := single.Inclusion(x, 0, 0)
	refused(t, "S1: Inclusion of 0", got, e, api.ErrSingleIndex)
	got, e = single.Inclusion(x, 6, 9)
	refused(t, "S1: Inclusion of 6", got, e, api.ErrSingleSize)
}

func TestExampleOfProofs(t *testing.T) {
	l := some(5, "leaf")
	x := grown(t, 2, l)
	for _, c := range []struct {
		first int
		want  []string
	}{
		{3, []string{l[2], l[3], node(l[0], l[1]), l[4]}},
		{4, []string{l[4]}},
		{5, nil},
	} {
		got, e := single.Consistency(x, c.first, 5)
		told(t, "S2: Consistency from "+strconv.Itoa(c.first), got, e, c.want...)
	}
	got, e := single.Consistency(x, 0, 5)
	refused(t, "S2: Consistency from 0", got, e, api.ErrSingleSize)
}

// Leaf by leaf, so that a tree is asked while its tiles are half full.
func TestWhileItGrows(t *testing.T) {
	l := some(40, "leaf")
	for height := 1; height <= 8; height++ {
		x := grown(t, height, nil)
		for n := range len(l) + 1 {
			isAll(t, x, modelOf(l[:n]))
			if n < len(l) {
				adds(t, x, l[n:n+1])
			}
		}
	}
}

func TestAllOfOneTree(t *testing.T) {
	l := some(131, "leaf")
	isAll(t, grown(t, 3, l), modelOf(l))
}

// Leaves that are all the same tell nothing apart but how many they are.
func TestSameLeaves(t *testing.T) {
	l := slices.Repeat(some(1, "leaf"), 37)
	isAll(t, grown(t, 2, l), modelOf(l))
}

// Leaves are 32 bytes of any kind, also such as are nodes of the tree.
func TestLeavesThatAreNodes(t *testing.T) {
	l := some(4, "leaf")
	l = append(l, node(l[0], l[1]), node(l[2], l[3]), string(make([]byte, 32)), node(node(l[0], l[1]), node(l[2], l[3])), hashOf(""))
	isAll(t, grown(t, 1, l), modelOf(l))
}

func TestOddNumbers(t *testing.T) {
	l := some(9, "leaf")
	for _, n := range []int{0, 1, 2, 8, 9} {
		x, m := grown(t, 2, l[:n]), modelOf(l[:n])
		numbers := append(odd(), 0, 1, n-1, n, n+1)
		for _, a := range numbers {
			for _, b := range numbers {
				isInclusion(t, x, m, a, b)
				isConsistency(t, x, m, a, b)
			}
		}
	}
}

// Of both faults of a path the size is told.
func TestSizeIsToldFirst(t *testing.T) {
	x := grown(t, 2, some(5, "leaf"))
	for _, size := range append(odd(), 6, 7) {
		for _, index := range append(odd(), 0, 4, 5, 6) {
			got, e := single.Inclusion(x, size, index)
			refused(t, "S1", got, e, api.ErrSingleSize)
		}
	}
	for size := range 6 {
		for _, index := range append(odd(), size, size+1) {
			got, e := single.Inclusion(x, size, index)
			refused(t, "S1", got, e, api.ErrSingleIndex)
		}
	}
}

// Where layer 7 made no tree, there are no leaves.
func TestNoTree(t *testing.T) {
	none, _ := tile.New(0)
	m := modelOf(nil)
	for _, x := range []*tile.Tree{nil, none, none.Clone()} {
		isAll(t, x, m)
		for _, n := range odd() {
			isInclusion(t, x, m, n, 0)
			isInclusion(t, x, m, 0, n)
			isConsistency(t, x, m, n, 0)
			isConsistency(t, x, m, 1, n)
		}
	}
}

// full is a tree of as many leaves as there may be, with its model.
var full = sync.OnceValue(func() (all struct {
	tree  *tile.Tree
	model model
}) {
	l := some(api.MaxLeaves, "leaf")
	all.tree, _ = tile.New(8)
	for _, leaf := range l {
		all.tree.Add(leaf)
	}
	all.model = modelOf(l)
	return all
})

// about are numbers about the places where a tree of a size is parted.
func about(r *rand.Rand, n int) []int {
	l := []int{0, 1, 2, 3, n / 3, n / 2, n - 2, n - 1, n, n + 1, half(n) - 1, half(n), half(n) + 1, 1 + r.Intn(n), 1 + r.Intn(n)}
	for p := 256; p <= n; p *= 16 {
		l = append(l, p-1, p, p+1, n-p)
	}
	return l
}

func TestFullTree(t *testing.T) {
	if testing.Short() {
		t.Skip("it has 1048576 leaves")
	}
	r := rand.New(rand.NewSource(1))
	x, m := full().tree, full().model
	for _, size := range []int{1, 255, 256, 257, 65535, 65537, 1<<19 - 1, 1 << 19, 1<<19 + 1, 700001, api.MaxLeaves - 1, api.MaxLeaves, api.MaxLeaves + 1, 1 << 21} {
		for _, n := range about(r, size) {
			isInclusion(t, x, m, size, n)
			isConsistency(t, x, m, n, size)
		}
	}
	for range 2000 {
		size := 1 + r.Intn(api.MaxLeaves)
		isInclusion(t, x, m, size, r.Intn(size))
		isConsistency(t, x, m, 1+r.Intn(size), size)
	}
}
