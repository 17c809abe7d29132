package tile_test

import (
	"math/rand"
	"slices"
	"testing"

	"scrivener/api"
	"scrivener/digest"
	"scrivener/tile"
)

func TestNew(t *testing.T) {
	for height := 1; height <= 8; height++ {
		x, m := made(t, height, nil)
		isTree(t, x, m)
		isPart(t, x, m, api.Span{})
		if root, e := x.Root(0); root != digest.Empty() || e != api.OK {
			t.Errorf("T4: Root of no leaves: %x, %d", root, e)
		}
	}
	wrong := append(odd(), 0, 9, 10, 16, 32, 64, 255, 256, 257)
	for _, height := range wrong {
		if x, e := tile.New(height); x != nil || e != api.ErrTileHeight {
			t.Errorf("T1: New(%d): a tree: %t, %d", height, x != nil, e)
		}
	}
}

func TestFirstExample(t *testing.T) {
	l := some(5, "leaf")
	x, _ := made(t, 1, l)
	ab, cd := node(l[0], l[1]), node(l[2], l[3])
	if hash, e := x.Hash(api.Node{Level: 1, Index: 0}); hash != ab || e != api.OK {
		t.Errorf("example 1: Hash(1, 0): %x, %d", hash, e)
	}
	if hash, e := x.Hash(api.Node{Level: 1, Index: 2}); hash != "" || e != api.ErrTileNone {
		t.Errorf("example 1: Hash(1, 2): %x, %d", hash, e)
	}
	for _, c := range []struct {
		level, index int
		want         []string
		e            api.Errno
	}{
		{0, 2, l[4:], api.OK},
		{1, 0, []string{ab, cd}, api.OK},
		{2, 0, []string{node(ab, cd)}, api.OK},
		{2, 1, nil, api.ErrTileNone},
	} {
		if got, e := x.Tile(c.level, c.index); !slices.Equal(got, c.want) || e != c.e {
			t.Errorf("example 1: Tile(%d, %d): %x, %d", c.level, c.index, got, e)
		}
	}
}

func TestSecondExample(t *testing.T) {
	l := some(5, "leaf")
	x, _ := made(t, 1, l)
	if root, e := x.Root(3); root != node(node(l[0], l[1]), l[2]) || e != api.OK {
		t.Errorf("example 2: Root(3): %x, %d", root, e)
	}
	if part, e := x.Part(api.Span{Begin: 1, End: 4}); part != node(node(l[1], l[2]), l[3]) || e != api.OK {
		t.Errorf("example 2: Part [1, 4): %x, %d", part, e)
	}
	if part, e := x.Part(api.Span{Begin: 2, End: 2}); part != digest.Empty() || e != api.OK {
		t.Errorf("example 2: Part [2, 2): %x, %d", part, e)
	}
	if root, e := x.Root(6); root != "" || e != api.ErrTileSize {
		t.Errorf("example 2: Root(6): %x, %d", root, e)
	}
}

func TestEachSize(t *testing.T) {
	l := some(40, "leaf")
	for height := 1; height <= 8; height++ {
		for n := range l {
			x, m := made(t, height, l[:n])
			isTree(t, x, m)
		}
	}
}

func TestGreaterSizes(t *testing.T) {
	l := some(700, "leaf")
	for height := 1; height <= 8; height++ {
		for _, n := range []int{63, 64, 65, 127, 255, 256, 257, 511, 512, 513, 700} {
			x, m := made(t, height, l[:n])
			for level, most := 0, n; most > 0; level, most = level+1, most/2 {
				for _, index := range []int{0, 1, most / 2, most - 2, most - 1, most} {
					isHash(t, x, m, api.Node{Level: level, Index: index})
				}
			}
			for level := range 11 {
				for index := range n>>(height*(level+1)) + 2 {
					isTile(t, x, m, level, index)
				}
			}
		}
	}
}

func TestEachSpan(t *testing.T) {
	l := some(34, "leaf")
	for height := 1; height <= 8; height++ {
		x, m := made(t, height, l)
		for begin := -1; begin <= len(l)+2; begin++ {
			for end := -1; end <= len(l)+2; end++ {
				isPart(t, x, m, api.Span{Begin: begin, End: end})
			}
		}
	}
}

func TestLongSpans(t *testing.T) {
	r := rand.New(rand.NewSource(7))
	l := some(1500, "leaf")
	for height := 1; height <= 8; height++ {
		x, m := made(t, height, l)
		for range 40 {
			at := []int{r.Intn(len(l) + 1), r.Intn(len(l) + 1)}
			slices.Sort(at)
			isPart(t, x, m, api.Span{Begin: at[0], End: at[1]})
			isRoot(t, x, m, at[0])
			// Where great subtrees begin or end, too.
			begin := 1 << r.Intn(10) * r.Intn(3)
			isPart(t, x, m, api.Span{Begin: min(begin, at[1]), End: at[1]})
			isPart(t, x, m, api.Span{Begin: min(at[0], begin), End: begin})
		}
	}
}

func TestAddOfNoHash(t *testing.T) {
	l := some(9, "leaf")
	for n := range l {
		x, m := made(t, 2, l[:n])
		for _, length := range []int{0, 1, 31, 33, 64, 1000} {
			if e := x.Add(string(make([]byte, length))); e != api.ErrTileHash {
				t.Errorf("T2: Add of %d bytes to %d leaves: %d", length, n, e)
			}
		}
		isTree(t, x, m)
	}
}

func TestAnyBytesAreAHash(t *testing.T) {
	l := []string{string(make([]byte, 32)), hashOf("\xff\xfe"), "0123456789abcdef0123456789abcdef", hashOf("")}
	l = append(l, l...)
	for height := 1; height <= 8; height++ {
		x, m := made(t, height, l)
		isTree(t, x, m)
	}
}

// No number is taken for another one that it wraps round to.
func TestOddPlaces(t *testing.T) {
	l := some(20, "leaf")
	for height := 1; height <= 8; height++ {
		x, m := made(t, height, l)
		few := []int{0, 1, 2, 5, 19, 20, 63, 64, 65}
		for _, a := range odd() {
			for _, b := range append(few, a, -a, a/2, a*2) {
				for _, c := range [][2]int{{a, b}, {b, a}} {
					isHash(t, x, m, api.Node{Level: c[0], Index: c[1]})
					isTile(t, x, m, c[0], c[1])
					isPart(t, x, m, api.Span{Begin: c[0], End: c[1]})
				}
			}
			isRoot(t, x, m, a)
		}
	}
}

// Levels of tiles whose product with the height wraps round to a level that there is.
func TestLevelsThatWrapRound(t *testing.T) {
	l := some(20, "leaf")
	for height := 1; height <= 8; height++ {
		x, m := made(t, height, l)
		for level := range 6 {
			for _, wrapping := range wrapRound(height, level) {
				for index := range 20 {
					isTile(t, x, m, wrapping, index)
				}
			}
		}
	}
}

// wrapRound are the numbers whose product with the height is a level, of numbers of 64 bits, and some whose product is near it.
func wrapRound(height, level int) []int {
	inverse := uint64(1)
	low := uint64(height)
	even := 0
	for low%2 == 0 {
		low, even = low/2, even+1
	}
	for range 6 {
		inverse *= 2 - low*inverse
	}
	var all []int
	for i := range uint64(8) {
		x := inverse*(uint64(level)>>even) + i<<(64-even)
		all = append(all, int(x), int(x)+1, int(x)-1)
	}
	return all
}

// What New tells beside an error is no tree; the calls on it do not panic. Nor do they on one that New did not make.
func TestNoTree(t *testing.T) {
	none, _ := tile.New(0)
	for _, x := range []*tile.Tree{none, {}, none.Clone(), none.Clone().Clone()} {
		for range 2 {
			isTree(t, x, model{})
			isPart(t, x, model{}, api.Span{})
			for _, n := range odd() {
				isHash(t, x, model{}, api.Node{Level: n, Index: n})
				isTile(t, x, model{}, n, n)
				isRoot(t, x, model{}, n)
			}
			if e := x.Add("odd"); e != api.ErrTileHash {
				t.Errorf("R1: Add of no hash to no tree: %d", e)
			}
			if e := x.Add(hashOf("leaf")); e != api.ErrArg {
				t.Errorf("R1: Add to no tree: %d", e)
			}
		}
	}
}
