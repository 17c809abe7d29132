package extract_test

import (
	"slices"
	"sync"
	"testing"

	"scrivener/api"
	"scrivener/extract"
)

// told is what the calls that take lists answer.
type told struct {
	leaves, paths, proof   api.Pair
	ofLeaves, of, ofProofs api.Errno
}

func use(a, b []string, p paths, q proofs) told {
	var x told
	x.leaves, x.ofLeaves = extract.Leaves(a, b)
	x.paths, x.of = extract.Inclusion(p.size, p.index, p.root, p.leaf, p.path, p.other, p.way)
	x.proof, x.ofProofs = extract.Consistency(q.leaves, q.first, q.old, q.proof)
	return x
}

// roomy is a list with spare room behind it, which no call may write into.
func roomy(l []string) []string {
	return append(slices.Clone(l), some(3, "spare")...)[:len(l)]
}

func whole(l []string) []string { return l[:cap(l)] }

// disagreeing are arguments of all calls; over a weak digest many of them give pairs.
func disagreeing(t *testing.T, d dice) (a, b []string, p paths, q proofs) {
	t.Helper()
	n := 2 + d.Intn(20)
	a = roomy(d.hashes(n))
	b = roomy(d.changed(a, 2))
	p = d.thrown(n, d.Intn(n), 0)
	p.path = roomy(d.hashes(pathLength(n, p.index)))
	p.root = upPath(n, p.index, p.leaf, p.path).result
	p.way = roomy(d.changed(p.path, 2))
	q = d.proven(a, 1+d.Intn(n))
	q.proof = roomy(q.proof)
	return a, b, p, q
}

func TestListsHandedIn(t *testing.T) {
	d := newDice()
	for range 300 {
		a, b, p, q := disagreeing(t, d)
		lists := [][]string{a, b, p.path, p.way, q.leaves, q.proof}
		var was [][]string
		for _, l := range lists {
			was = append(was, slices.Clone(whole(l)))
		}
		use(a, b, p, q)
		for i, l := range lists {
			if !slices.Equal(whole(l), was[i]) {
				t.Fatalf("R2: the list %d was written into", i)
			}
		}
	}
}

func TestSameMemoryOtherHashes(t *testing.T) {
	d := newDice()
	for range 300 {
		a, b, p, q := disagreeing(t, d)
		first := use(a, b, p, q)
		fresh := d.hashes(len(a))
		kept := slices.Clone(a)
		copy(a, fresh)
		use(a, b, p, q)
		copy(a, kept)
		if use(a, b, p, q) != first {
			t.Fatal("R2: the answers hang on the hashes of an earlier call")
		}
	}
}

func TestCallsAtOnce(t *testing.T) {
	a, b, p, q := disagreeing(t, newDice())
	want := use(a, b, p, q)
	var all sync.WaitGroup
	answers := make([]told, 8)
	for i := range answers {
		all.Go(func() {
			for range 20 {
				answers[i] = use(a, b, p, q)
			}
		})
	}
	all.Wait()
	for _, x := range answers {
		if x != want {
			t.Error("R2: calls at once disturb one another")
		}
	}
}
