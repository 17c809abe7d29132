package shape_test

import (
	"slices"
	"sync"
	"testing"

	"scrivener/api"
	"scrivener/shape"
)

// overwrite writes into a list and all its spare room.
func overwrite[E any](l []E, with E) {
	l = l[:cap(l)]
	for i := range l {
		l[i] = with
	}
}

// spared is a list with spare room in which something stands.
func spared[E any](l []E, behind E) []E {
	room := append(slices.Clone(l), behind, behind, behind)
	return room[:len(l)]
}

// asWas tells whether a list and its spare room are as spared made them.
func asWas[E comparable](l, was []E, behind E) bool {
	room := l[:len(l)+3]
	return slices.Equal(l, was) && !slices.ContainsFunc(room[len(l):], func(x E) bool { return x != behind })
}

func TestListsAreNew(t *testing.T) {
	calls := []func() told{
		func() told { return pathOf(1000, 333) },
		func() told { return proofOf(333, 1000) },
		func() told { return batchOf(1000, 1, 5, 333) },
		func() told { return runOf(1000, 5, 333) },
	}
	for i, call := range calls {
		one, two := call(), call()
		was := slices.Clone(two.spans)
		overwrite(one.spans, at(7, 7))
		if len(was) == 0 || !slices.Equal(two.spans, was) || !slices.Equal(call().spans, was) {
			t.Errorf("R2: two lists of call %d share memory", i)
		}
	}
	one, _ := shape.Cover(at(1, 1000))
	two, _ := shape.Cover(at(1, 1000))
	overwrite(one, api.Node{Level: 9, Index: 9})
	if !slices.Equal(two, slowCover(at(1, 1000))) {
		t.Error("R2: two lists of Cover share memory")
	}
}

func TestListsStay(t *testing.T) {
	for _, in := range [][]int{{0, 3, 4}, {0, 0}, {3, 1}, {-1, 2}, {0, 9}, {}} {
		l := spared(in, 77)
		shape.Batch(5, l)
		if !asWas(l, in, 77) {
			t.Errorf("R2: Batch has written into %v", in)
		}
	}
	known := []api.Span{at(4, 5), at(0, 4), at(0, 2), at(7, 3), at(4, 5)}
	hashes := some(5, "known")
	for _, want := range subtreesOf(at(0, 5)) {
		k, h := spared(known, at(7, 7)), spared(hashes, "behind")
		shape.Fold(5, k, h, want)
		shape.Fold(5, k, h[:3], want)
		if !asWas(k, known, at(7, 7)) || !asWas(h, hashes, "behind") {
			t.Errorf("R2: Fold to %v has written into a list", want)
		}
	}
}

// What was handed in and is changed behind that does not matter any more.
func TestListsAreNotKept(t *testing.T) {
	in := []int{0, 3}
	l, _ := shape.Batch(5, in)
	overwrite(in, 1)
	known, hashes := []api.Span{at(0, 4), at(4, 5)}, some(2, "known")
	want := node(hashes[0], hashes[1])
	hash, _ := shape.Fold(5, known, hashes, at(0, 5))
	overwrite(known, at(0, 1))
	overwrite(hashes, "over")
	if !slices.Equal(l, []api.Span{at(1, 2), at(2, 3), at(4, 5)}) || hash != want {
		t.Error("R2: an answer shares memory with what was handed in")
	}
}

func TestCallsAtOnce(t *testing.T) {
	in := []int{1, 5, 333}
	known := append(slowBatch(1000, in), at(1, 2), at(5, 6), at(333, 334))
	hashes := some(len(known), "known")
	var all sync.WaitGroup
	for i := range 8 {
		all.Go(func() {
			pathOf(1000, i).is(t, "H2", slowPath(at(0, 1000), i)...)
			proofOf(1+i, 1000).is(t, "H3", slowProof(at(0, 1000), 1+i, true)...)
			batchOf(1000, in...).is(t, "H4", slowBatch(1000, in)...)
			isFold(t, 1000, known, hashes, at(0, 1000))
		})
	}
	all.Wait()
}
