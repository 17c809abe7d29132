package recursion_test

import (
	"slices"
	"testing"

	"scrivener/recursion"
)

// roomy is a list with spare room, and all of its memory.
func roomy[E any](l []E, spare E) (list, memory []E) {
	memory = append(slices.Clone(l), spare, spare, spare, spare)
	return memory[:len(l)], memory
}

// spoil writes over a list and its spare room.
func spoil(l []string) {
	l = l[:cap(l)]
	for i := range l {
		l[i] = "spoilt"
	}
}

func asksOf(n int) []ask {
	asks := []ask{rootAsk(), partAsk(0, n), partAsk(n/2, n), partAsk(0, 0)}
	for i := range n {
		asks = append(asks, pathAsk(i), proofAsk(i+1), manyAsk(i), manyAsk(picked(i+1, n)...))
	}
	return asks
}

func TestListsHandedIn(t *testing.T) {
	for n := 1; n < 20; n++ {
		l, memory := roomy(some(n, "in"), "spare")
		was := slices.Clone(memory)
		for _, a := range asksOf(n) {
			a.of(l)
			if !slices.Equal(memory, was) {
				t.Fatalf("R2: %s of %d leaves wrote into them", a.name, n)
			}
		}
		in, inMemory := roomy(picked(5, n), -7)
		inWas := slices.Clone(inMemory)
		recursion.Many(l, in)
		if !slices.Equal(inMemory, inWas) {
			t.Fatalf("R2: Many of %d leaves wrote into the indices", n)
		}
	}
}

func TestListsThatComeOut(t *testing.T) {
	for n := 1; n < 20; n++ {
		l, memory := roomy(some(n, "out"), "spare")
		was := slices.Clone(memory)
		for _, a := range asksOf(n) {
			first := a.of(l)
			want := slices.Clone(first.hashes)
			second := a.of(l)
			spoil(first.hashes)
			third := a.of(l)
			if !slices.Equal(second.hashes, want) || !slices.Equal(third.hashes, want) || !slices.Equal(memory, was) {
				t.Fatalf("R2: %s of %d leaves: what came out is not new memory", a.name, n)
			}
		}
	}
}

func TestSameMemoryOtherLeaves(t *testing.T) {
	for n := 1; n < 20; n++ {
		old, fresh := some(n, "old"), some(n, "fresh")
		for _, a := range asksOf(n) {
			l := slices.Clone(old)
			first := a.of(l)
			want := slices.Clone(first.hashes)
			copy(l, fresh)
			second := a.of(l)
			if !slices.Equal(first.hashes, want) {
				t.Fatalf("R2: %s of %d leaves: the answer changed with the leaves", a.name, n)
			}
			if !slices.Equal(second.hashes, a.of(slices.Clone(fresh)).hashes) {
				t.Fatalf("R2: %s of %d leaves: the answer hangs on the leaves of an earlier call", a.name, n)
			}
		}
	}
}

func TestSameIndicesMemory(t *testing.T) {
	l := some(9, "indices")
	in := []int{1, 4, 6}
	recursion.Many(l, in)
	copy(in, []int{0, 2, 8})
	got, _ := recursion.Many(l, in)
	if !slices.Equal(got, newModel(l).many([]int{0, 2, 8})) {
		t.Error("R2: Many hangs on the indices of an earlier call")
	}
}
