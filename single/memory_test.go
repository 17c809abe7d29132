package single_test

import (
	"slices"
	"strconv"
	"testing"

	"scrivener/api"
	"scrivener/single"
	"scrivener/tile"
)

// overwrite writes into a list and all its spare room.
func overwrite(l []string) {
	l = l[:cap(l)]
	for i := range l {
		l[i] = "over"
	}
}

// tilesOf are all that a tree keeps.
func tilesOf(x *tile.Tree) [][]string {
	all := [][]string{{strconv.Itoa(x.Size()), strconv.Itoa(x.Height())}}
	for level := range 8 {
		for index := 0; ; index++ {
			row, e := x.Tile(level, index)
			if e != api.OK {
				break
			}
			all = append(all, row)
		}
	}
	return all
}

func TestListsAreNew(t *testing.T) {
	l := some(70, "leaf")
	for height := 1; height <= 8; height++ {
		x, m := grown(t, height, l), modelOf(l)
		before := tilesOf(x)
		for n := 1; n <= len(l); n++ {
			for place := range n {
				path, _ := single.Inclusion(x, n, place)
				proof, _ := single.Consistency(x, place+1, n)
				kept, other := slices.Clone(path), slices.Clone(proof)
				again, _ := single.Inclusion(x, n, place)
				more, _ := single.Consistency(x, place+1, n)
				overwrite(again)
				overwrite(more)
				if !slices.Equal(path, kept) || !slices.Equal(proof, other) {
					t.Fatalf("R2: two lists of %d and %d share memory", place, n)
				}
				isInclusion(t, x, m, n, place)
				isConsistency(t, x, m, place+1, n)
			}
		}
		if !slices.EqualFunc(tilesOf(x), before, slices.Equal) {
			t.Errorf("R2: height %d: writing into the lists has changed the tree", height)
		}
	}
}

// A list that came out stays as it is when the tree goes on.
func TestListsStay(t *testing.T) {
	l := some(60, "leaf")
	x := grown(t, 1, nil)
	var lists, copies [][]string
	for n, leaf := range l {
		adds(t, x, []string{leaf})
		for place := range n + 1 {
			path, _ := single.Inclusion(x, n+1, place)
			proof, _ := single.Consistency(x, place+1, n+1)
			lists, copies = append(lists, path, proof), append(copies, slices.Clone(path), slices.Clone(proof))
		}
	}
	if !slices.EqualFunc(lists, copies, slices.Equal) {
		t.Error("R2: a list was written into when the tree went on")
	}
}

// Asking changes nothing of the tree, whether it is refused or not.
func TestTreeStays(t *testing.T) {
	l := some(37, "leaf")
	for height := 1; height <= 8; height++ {
		x, m := grown(t, height, l[:20]), modelOf(l[:20])
		before := tilesOf(x)
		isAll(t, x, m)
		for _, n := range odd() {
			isInclusion(t, x, m, n, 0)
			isConsistency(t, x, m, 1, n)
		}
		if !slices.EqualFunc(tilesOf(x), before, slices.Equal) {
			t.Errorf("R2: height %d: asking has changed the tree", height)
		}
		adds(t, x, l[20:])
		isAll(t, x, modelOf(l))
	}
}

// One tree's answers do not hang on what was asked of another one.
func TestTreesDoNotDisturb(t *testing.T) {
	a, b := some(25, "leaf"), append(some(7, "leaf"), some(18, "other")...)
	x, y := grown(t, 2, a), grown(t, 2, b)
	z := x.Clone()
	adds(t, z, some(3, "behind"))
	for size := range 26 {
		for place := range 26 {
			isInclusion(t, x, modelOf(a), size, place)
			isInclusion(t, y, modelOf(b), size, place)
			isConsistency(t, x, modelOf(a), place, size)
			isConsistency(t, y, modelOf(b), place, size)
		}
	}
	isAll(t, z, modelOf(append(slices.Clone(a), some(3, "behind")...)))
}

func TestCallsAtOnce(t *testing.T) {
	l := some(40, "leaf")
	x, m := grown(t, 2, l), modelOf(l)
	t.Run("at once", func(t *testing.T) {
		for i := range 8 {
			t.Run(strconv.Itoa(i), func(t *testing.T) {
				t.Parallel()
				isAll(t, x, m)
			})
		}
	})
}
